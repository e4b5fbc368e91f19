"""Which unknowns factors touch and link, and orders in which few unknowns are reached at a time.

Lots of unknowns are told by numbers here, as by their digits 1 at the base 2.
"""

from listpicks.reckoning import highest


def touched(polynomial):
    """The unknowns that have a power above 0 in some term."""
    if polynomial == ():
        return ()
    n = len(polynomial[0][0])
    return tuple([at for at in range(n) if highest(polynomial, at) > 0])


def _lot_of(places):
    return sum([1 << at for at in places])


def _places_of(lot, n):
    return tuple([at for at in range(n) if (lot >> at) & 1 == 1])


def _links(n, factors):
    """For each unknown the lot of all that some factor links it with, itself among them."""
    found = [1 << at for at in range(n)]
    for factor in factors:
        places = touched(factor)
        for at in places:
            found[at] = found[at] | _lot_of(places)
    return found


def _reach(links, ahead, at):
    """The lot of the unknowns not ahead to which links lead from one over none but unknowns ahead."""
    seen = links[at]
    passed = 0
    while (seen & ahead) != passed:
        passed = seen & ahead
        for place in _places_of(passed, len(links)):
            seen = seen | links[place]
    return seen - (seen & (ahead | (1 << at)))


def reach_along(n, factors, order):
    """For each unknown of an order those behind it to which links lead over unknowns ahead of it."""
    links = _links(n, factors)
    found = []
    ahead = 0
    for at in order:
        found.append(_places_of(_reach(links, ahead, at), n))
        ahead = ahead | (1 << at)
    return tuple(found)


def width_along(n, factors, order):
    """How many unknowns are reached at a time at most."""
    return max([len(places) for places in reach_along(n, factors, order)])


def _best_pair(n, factors):
    """The least width of all orders, and some order that has it."""
    links = _links(n, factors)
    # Who is reached hangs on the lot ahead, not on its order; and each lot comes behind its parts.
    best = {0: (0, ())}
    for lot in range(1, 1 << n):
        pairs = []
        for at in _places_of(lot, n):
            width, order = best[lot - (1 << at)]
            reached = len(_places_of(_reach(links, lot - (1 << at), at), n))
            pairs.append((max(width, reached), order + (at,)))
        best[lot] = min(pairs)
    return best[(1 << n) - 1]


def best_order(n, factors):
    """Some order that has the least width."""
    _, order = _best_pair(n, factors)
    return order


def least_width(n, factors):
    """The least width of all orders."""
    width, _ = _best_pair(n, factors)
    return width
