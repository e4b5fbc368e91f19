"""What the tests of points [52] to [54] share: the game gone through with all offers and all answers."""

from plain_lots import plain_lots


def plain_offers(stand):
    return sorted(lot for lot in plain_lots(len(stand))[1:] if all(stand[at] for at in lot))


def plain_answers(web, stand, offer):
    found = []
    for picks in plain_lots(len(offer)):
        answer = tuple(offer[at] for at in picks)
        if any(u in answer and v in answer for u, v in web[1]):
            continue
        if all(at in answer for at in offer if stand[at] == 1):
            found.append(answer)
    return sorted(found)


def plain_after(stand, offer, answer):
    return tuple(0 if at in answer else number - (at in offer) for at, number in enumerate(stand))


def plain_losing(web, stand, known):
    """None if the house wins, otherwise the first offer that no answer helps against."""
    if stand not in known:
        known[stand] = None
        for offer in plain_offers(stand):
            answers = plain_answers(web, stand, offer)
            if all(plain_losing(web, plain_after(stand, offer, answer), known) for answer in answers):
                known[stand] = offer
                break
    return known[stand]
