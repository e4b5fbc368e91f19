"""Tables of worths at all choices, and polynomials made from them."""

from listpicks.gridmaps import all_worths, form_map, mapped
from listpicks.lists import all_tuples, check_count, list_product
from listpicks.polynomials import constant, times


def table_of(p, polynomial, lists):
    """The worths of a polynomial at all choices, these in ascending order."""
    check_count(lists)
    return tuple(all_worths(p, polynomial, lists))


def form_of(p, lists, worths):
    """None, or the polynomial with powers below the lengths of the lists that has these worths."""
    check_count(lists)
    factors = mapped(p, worths, [form_map(p, row) for row in lists])
    if factors is None:
        return None
    powers = all_tuples([list(range(len(row))) for row in lists])
    return tuple([(power, factor) for power, factor in zip(powers, factors) if factor != 0])


def mark_of(p, lists, choice):
    """The product, over all lists, of the unknown less each element but the one that was picked."""
    n = len(lists)
    found = constant(p, n, 1)
    for at, row in enumerate(lists):
        others = tuple([one for one in row if one != choice[at]])
        found = times(p, found, list_product(p, n, at, others))
    return found
