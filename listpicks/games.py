"""The game: an opponent offers one colour after another, and the house answers at once."""

from listpicks.answering import full_answers
from listpicks.errors import Refused
from listpicks.kinds import is_lot, is_number
from listpicks.reckoning import product_of
from listpicks.webcores import core_of, linked_places

GREATEST_NUMBER = 12
MOST_STANDS = 3000


def is_stand(web, value):
    """Whether any value is a tuple with a number for each place."""
    if not isinstance(value, tuple) or len(value) != web[0]:
        return False
    return all([is_number(number) and number <= GREATEST_NUMBER for number in value])


def is_offer(stand, value):
    """Whether any value is an ascending tuple of one or more places that are not done."""
    return is_lot(len(stand), value) and value != () and all([stand[place] > 0 for place in value])


def is_answer(web, stand, offer, value):
    """Whether any value is an answer to an offer."""
    if not is_lot(web[0], value) or not all([place in offer for place in value]):
        return False
    if any([u in value and v in value for u, v in web[1]]):
        return False
    return all([place in value for place in offer if stand[place] == 1])


def after(stand, offer, answer):
    """The stand behind an answer to an offer."""
    found = list(stand)
    for place in offer:
        found[place] = 0 if place in answer else stand[place] - 1
    return tuple(found)


def _check_stands(stand):
    """Refuse more stands than are gone through."""
    count = product_of([number + 1 for number in stand])
    if count > MOST_STANDS:
        raise Refused(count)


def house_wins(web, stand):
    """Whether the house can win, whatever is offered."""
    _check_stands(stand)
    return _wins(linked_places(web), stand, {})


def losing_offer(web, stand):
    """None if the house can win, otherwise the first offer behind whose answers it can't."""
    _check_stands(stand)
    return _first_losing(linked_places(web), stand, {})


def _wins(linked, stand, known):
    """Whether the house can win; what was found out is kept in a dict."""
    if stand not in known:
        # The house can always wait at places that are not in the core.
        core, _ = core_of(linked, stand)
        if core == stand:
            known[stand] = _first_losing(linked, stand, known) is None
        else:
            known[stand] = _wins(linked, core, known)
    return known[stand]


def _first_losing(linked, stand, known):
    for offer in _all_offers(stand):
        if not _has_good_answer(linked, stand, offer, known):
            return offer
    return None


def _has_good_answer(linked, stand, offer, known):
    for answer in full_answers(linked, stand, offer):
        if _wins(linked, after(stand, offer, answer), known):
            return True
    return False


def _all_offers(stand):
    """All offers, ascending."""
    found = []
    for place in reversed(range(len(stand))):
        if stand[place] > 0:
            found = [(place,)] + [(place,) + lot for lot in found] + found
    return found
