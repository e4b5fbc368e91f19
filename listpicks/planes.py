"""Planes: what they hold, and the choices that some of them leave."""

from listpicks.fields import element
from listpicks.kinds import are_elements, is_element, is_pair
from listpicks.lists import choices
from listpicks.reckoning import gathered, only_at, row_times


def is_plane(p, n, value):
    """Whether any value is a plane in n unknowns."""
    if not is_pair(value) or not are_elements(p, n, value[0]):
        return False
    return any(value[0]) and is_element(p, value[1])


def are_planes(p, n, value):
    """Whether any value is a tuple of planes in n unknowns."""
    return isinstance(value, tuple) and all([is_plane(p, n, plane) for plane in value])


def plane_holds(p, plane, point):
    """Whether the factors, each times the element of a point, add up to the number of a plane."""
    factors, number = plane
    return element(p, row_times(factors, point)) == number


def plane_polynomial(p, plane):
    """The polynomial that is 0 just at what a plane holds."""
    factors, number = plane
    n = len(factors)
    totals = {only_at(n, at, 1): factor for at, factor in enumerate(factors)}
    totals[(0,) * n] = -number
    return gathered(p, totals)


def _sums_along(factors, lists):
    """What the factors, each times the element of a choice, add up to, for all choices in their order."""
    found = [0]
    for factor, row in zip(factors, lists):
        steps = [factor * one for one in row]
        found = [ahead + step for ahead in found for step in steps]
    return found


def left_over(p, lists, planes):
    """All choices that none of some planes holds."""
    rows = choices(lists)
    held = [False] * len(rows)
    for factors, number in planes:
        # A total that is reckoned from list to list is far less work than one for each choice alone.
        totals = _sums_along(factors, lists)
        held = [before or element(p, total) == number for before, total in zip(held, totals)]
    return tuple([choice for choice, is_held in zip(rows, held) if not is_held])
