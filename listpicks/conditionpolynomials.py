"""Polynomials that aren't 0 exactly where a condition holds."""

from math import comb

from listpicks.conditions import ADD, ALL, IS, LIKE, MINUS, NOT, OF, SOME, UNLIKE, straight
from listpicks.errors import Refused
from listpicks.fields import element
from listpicks.gridmaps import all_worths
from listpicks.lists import check_count
from listpicks.norms import norm_of
from listpicks.polynomials import constant, degree, minus, plus, product_polynomial, scaled, times, unknown
from listpicks.reckoning import highest

GREATEST_DEGREE = 40
MOST_TUPLES = 3000


def zero_only(p, k):
    """Some polynomial in k unknowns that is 0 only where all of them are, of the least degree of all such."""
    return norm_of(p, k, [unknown(p, k, at) for at in range(k)])


def _sum_polynomial(p, n, one):
    """The polynomial that comes to what a sum comes to."""
    word, inner = one
    if word == IS:
        return constant(p, n, element(p, inner))
    if word == OF:
        return unknown(p, n, inner)
    if word == MINUS:
        return scaled(p, _sum_polynomial(p, n, inner), -1)
    found = _sum_polynomial(p, n, inner[0])
    for part in inner[1:]:
        other = _sum_polynomial(p, n, part)
        found = plus(p, found, other) if word == ADD else times(p, found, other)
    return found


def _has_like(condition):
    """Whether a straight condition has a like."""
    word, inner = condition
    if word in (ALL, SOME):
        return any([_has_like(part) for part in inner])
    return word == LIKE


def _other_worths(p, lists, polynomial):
    """The elements but 0 that a polynomial comes to at choices, ascending."""
    # What is picked from a list whose unknown it does not have makes no difference.
    rows = tuple([row if highest(polynomial, at) > 0 else row[:1] for at, row in enumerate(lists)])
    return sorted(set(all_worths(p, polynomial, rows)) - {0})


def _plan(p, lists, condition):
    """For a straight condition the triple (its word, its degree, what its polynomial is made from).

    That is the list of the plans of its parts, or the pair of a difference and of
    the elements by which it is made less each time it is multiplied.
    """
    word, inner = condition
    if word in (ALL, SOME):
        plans = [_plan(p, lists, part) for part in inner]
        degrees = [told for _, told, _ in plans]
        told = _all_degree(degrees) if word == ALL else _some_degree(p, degrees)
        return word, told, plans
    one, other = inner
    n = len(lists)
    difference = minus(p, _sum_polynomial(p, n, one), _sum_polynomial(p, n, other))
    if word == UNLIKE:
        return word, degree(difference), (difference, [0])
    if degree(difference) <= 0:
        # A like of two sums that differ by an element holds nowhere, of two without a difference everywhere.
        return word, -1 - degree(difference), (difference, [])
    worths = _other_worths(p, lists, difference)
    return word, degree(difference) * len(worths), (difference, worths)


def _all_degree(degrees):
    return -1 if -1 in degrees else sum(degrees)


def _some_degree(p, degrees):
    able = [told for told in degrees if told != -1]
    if able == []:
        return -1
    if 0 in able:
        return 0
    many = len(able) if p != 0 else min(2, len(able))
    return max(able) * many


def _made(p, n, plan):
    """The polynomial for a plan."""
    word, told, inner = plan
    if told == -1:
        return ()
    if told == 0:
        return constant(p, n, 1)
    if word == SOME:
        return norm_of(p, n, [_made(p, n, part) for part in inner if part[1] != -1])
    if word == ALL:
        return product_polynomial(p, n, [_made(p, n, part) for part in inner])
    difference, worths = inner
    return product_polynomial(p, n, [minus(p, difference, constant(p, n, one)) for one in worths])


def _checked_plan(p, lists, condition):
    """The plan for any condition; too many choices are refused if worths at them are needed."""
    told = straight(condition)
    if _has_like(told):
        check_count(lists)
    return _plan(p, lists, told)


def told_degree(p, lists, condition):
    """The degree of the polynomial of a condition."""
    _, told, _ = _checked_plan(p, lists, condition)
    return told


def _unknowns(value):
    """The unknowns that a condition or a sum has, each as often as it stands there."""
    word, inner = value
    if word == IS:
        return []
    if word == OF:
        return [inner]
    if word in (MINUS, NOT):
        return _unknowns(inner)
    return [at for part in inner for at in _unknowns(part)]


def condition_polynomial(p, lists, condition):
    """Some polynomial of this degree that isn't 0 exactly at the choices at which a condition holds."""
    plan = _checked_plan(p, lists, condition)
    _, told, _ = plan
    many = len(set(_unknowns(condition)))
    # There are as many tuples with a sum up to a number as ways to choose.
    if told > GREATEST_DEGREE or (told > 0 and comb(many + told, many) > MOST_TUPLES):
        raise Refused(told)
    return _made(p, len(lists), plan)
