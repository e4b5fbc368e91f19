"""The game played on with answers behind which there is a paper, and lists coloured by it."""

from listpicks.errors import InvalidQuestion, Refused
from listpicks.gamepapers import game_paper, kept_answer
from listpicks.games import after, is_offer
from listpicks.kinds import is_sequence


def played(web, stand, offers):
    """For each offer the pair of its kept answer and of the stand behind it."""
    if game_paper(web, stand) is None:
        raise Refused(0)
    if not is_sequence(offers):
        raise InvalidQuestion(0)
    found = []
    left = stand
    for at, offer in enumerate(offers):
        if not is_offer(left, offer):
            raise InvalidQuestion(at)
        answer = kept_answer(web, left, offer)
        left = after(left, offer, answer)
        found.append((answer, left))
    return tuple(found)


def coloured_at(web, stand, offers):
    """For each place the index of the offer at which it was answered, None if none was."""
    found = [None] * web[0]
    for at, (answer, _) in enumerate(played(web, stand, offers)):
        for place in answer:
            found[place] = at
    return tuple(found)


def colouring_by_game(web, lists):
    """None, or the colouring that comes if the elements are offered one after another, the least first."""
    left = tuple([len(row) for row in lists])
    if game_paper(web, left) is None:
        return None
    choice = [None] * len(lists)
    for one in sorted(set([other for row in lists for other in row])):
        offer = tuple([place for place, row in enumerate(lists) if left[place] > 0 and one in row])
        if offer != ():
            answer = kept_answer(web, left, offer)
            left = after(left, offer, answer)
            for place in answer:
                choice[place] = one
    return tuple(choice)
