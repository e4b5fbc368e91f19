"""Webs: places, ties between them, and colours from lists, unlike at both places of a tie."""

from listpicks.kinds import is_ascending, is_lot, is_number, is_pair
from listpicks.lists import is_choice
from listpicks.reckoning import gathered
from listpicks.webcores import core_of, linked_places
from listpicks.webterms import capped_terms

MOST_PLACES = 10
MOST_TIES = 16


def _are_ties(n, value):
    """Whether any value is an ascending tuple of ties between n places."""
    if not isinstance(value, tuple) or len(value) > MOST_TIES:
        return False
    return all([is_pair(tie) and is_lot(n, tie) for tie in value]) and is_ascending(value)


def is_web(value):
    """Whether any value is a web."""
    if not is_pair(value) or not is_number(value[0]):
        return False
    n, ties = value
    return 1 <= n <= MOST_PLACES and _are_ties(n, ties)


def web_polynomial(p, web):
    """The product of (unknown u less unknown v) over all ties."""
    n, ties = web
    return gathered(p, capped_terms(ties, (len(ties),) * n))


def is_colouring(web, lists, value):
    """Whether any value is a choice with unlike elements at both places of each tie."""
    return is_choice(lists, value) and all([value[u] != value[v] for u, v in web[1]])


def colouring(web, lists):
    """None, or the first colouring from lists."""
    linked = linked_places(web)
    rows = {place: row for place, row in enumerate(lists)}
    if not _can_be_coloured(linked, rows):
        return None
    choice = []
    for place in range(len(linked)):
        one, rows = _first_colour(linked, rows, place)
        choice.append(one)
    return tuple(choice)


def _first_colour(linked, rows, place):
    """The first element for a place with which the others can be coloured, and what is left to these."""
    for one in rows[place]:
        left = _coloured(linked, rows, place, one)
        if _can_be_coloured(linked, left):
            return one, left
    return None


def _coloured(linked, rows, place, one):
    """What is left to the other places if a place has an element."""
    found = {}
    for at, row in rows.items():
        if at in linked[place]:
            found[at] = tuple([other for other in row if other != one])
        elif at != place:
            found[at] = row
    return found


def _can_be_coloured(linked, rows):
    """Whether the places that are the keys of a dict have a colouring from its rows."""
    if any([row == () for row in rows.values()]):
        return False
    core, _ = core_of(linked, [len(rows.get(place, ())) for place in range(len(linked))])
    kept = sorted([(number, place) for place, number in enumerate(core) if number > 0])
    if kept == []:
        return True
    left = {place: rows[place] for _, place in kept}
    shortest = kept[0][1]
    for one in rows[shortest]:
        if _can_be_coloured(linked, _coloured(linked, left, shortest, one)):
            return True
    return False
