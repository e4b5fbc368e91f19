"""The one coefficient: a weighted sum over all choices, and the factor of the top."""

from listpicks.fields import element
from listpicks.gridmaps import all_worths, differences_in, mapped, weight_map
from listpicks.lists import check_count
from listpicks.polynomials import factor_of
from listpicks.reckoning import gathered, highest, product_of
from listpicks.rests import rest_of, tops


def differences(p, lists, choice):
    """The product of all differences of what was picked from the rest of its list."""
    return element(p, product_of([differences_in(p, row, one) for row, one in zip(lists, choice)]))


def weighted_sum(p, polynomial, lists):
    """The sum, over all choices, of the worth divided by the differences."""
    check_count(lists)
    # List by list all sums are whole, also over 0: they are worths of polynomials in the lists ahead.
    return mapped(p, all_worths(p, polynomial, lists), [weight_map(p, row) for row in lists])[0]


def top_column(p, polynomial, lists, at):
    """The polynomial in one unknown that is the factor of the top of the lists behind at.

    It tells this factor for each element of the list at; the powers ahead of at are not looked at.
    """
    behind = [tops(p, lists[k], highest(polynomial, k)) for k in range(at + 1, len(lists))]
    totals = {}
    for powers, factor in polynomial:
        share = factor
        for highest_factors, power in zip(behind, powers[at + 1:]):
            share = share * highest_factors[power]
        key = (powers[at],)
        totals[key] = totals.get(key, 0) + share
    return gathered(p, totals)


def top_factor(p, polynomial, lists):
    """The factor of the top in the least form; no choices are gone through."""
    column = top_column(p, polynomial, lists, 0)
    return factor_of(rest_of(p, column, lists[:1]), (len(lists[0]) - 1,))
