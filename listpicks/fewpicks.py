"""How few choices there can be at which a polynomial isn't 0."""

from listpicks.errors import Refused
from listpicks.lists import list_product
from listpicks.polynomials import constant, times
from listpicks.reckoning import product_of

MOST_TERMS = 3000


def least_shape(lengths, d):
    """The lengths made less by d in all, the shortest ones first, down to 1."""
    shape = list(lengths)
    left = d
    for length, at in sorted([(many, place) for place, many in enumerate(lengths)]):
        taken = min(left, length - 1)
        shape[at] = length - taken
        left = left - taken
    return tuple(shape)


def least_picks(lengths, d):
    """The least number of choices, but none, at which a polynomial of degree d isn't 0."""
    return product_of(least_shape(lengths, d))


def fewest_condition(p, lists, d):
    """A polynomial of degree d at most that isn't 0 at just so few choices."""
    n = len(lists)
    lengths = [len(row) for row in lists]
    taken = [length - left for length, left in zip(lengths, least_shape(lengths, d))]
    count = product_of([many + 1 for many in taken])
    if count > MOST_TERMS:
        raise Refused(count)
    found = constant(p, n, 1)
    for at, many in enumerate(taken):
        found = times(p, found, list_product(p, n, at, lists[at][:many]))
    return found
