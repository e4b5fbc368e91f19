"""Choices to which the one coefficient leads, list by list."""

from listpicks.polynomials import put_in, worth
from listpicks.surelists import shortened
from listpicks.weights import top_column, top_factor


def led(p, polynomial, lists):
    """None if the top factor is 0, otherwise a pair (element, factor) for each list."""
    if top_factor(p, polynomial, lists) == 0:
        return None
    # Putting in and dividing by other lists can change places, so the least form itself is not needed.
    found = []
    left = polynomial
    for at, row in enumerate(lists):
        pair = _first_led(p, top_column(p, left, lists, at), row)
        found.append(pair)
        left = put_in(p, left, at, pair[0])
    return tuple(found)


def _first_led(p, column, row):
    """The first element of a row at which a polynomial in one unknown isn't 0, and its worth there."""
    for one in row:
        factor = worth(p, column, (one,))
        if factor != 0:
            return one, factor
    return None


def sure_choice(p, polynomial, lists, powers):
    """The choice of the elements that are led to in the lists shortened by sure powers."""
    return tuple([one for one, _ in led(p, polynomial, shortened(lists, powers))])
