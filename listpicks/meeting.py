"""Points that meet all planes; the field is not 0."""

from listpicks.errors import Refused
from listpicks.fields import element
from listpicks.kinds import are_elements, is_ascending
from listpicks.lists import all_tuples
from listpicks.reckoning import only_at, product_of, row_times

MOST_POINTS = 1000


def _check_points(p, n):
    """Refuse more points than are gone through."""
    count = product_of([p] * n)
    if count > MOST_POINTS:
        raise Refused(count)


def _directions(p, n):
    """All tuples of n elements whose first one that isn't 0 is 1, ascending."""
    found = []
    for zeros in reversed(range(n)):
        rows = [(0,)] * zeros + [(1,)] + [tuple(range(p))] * (n - zeros - 1)
        found.extend(all_tuples(rows))
    return found


def _first_missing(p, factors, points):
    """None, or the first element that the factors, each times the element of a point, never add up to."""
    told = {element(p, row_times(factors, point)): True for point in points}
    for number in range(p):
        if number not in told:
            return number
    return None


def missed_plane(p, n, points):
    """None, or the first of all planes that holds none of the points."""
    _check_points(p, n)
    # Of all multiples of a plane, which hold the same, the first one has 1 as its first factor but 0.
    for factors in _directions(p, n):
        number = _first_missing(p, factors, points)
        if number is not None:
            return factors, number
    return None


def is_meeting(p, n, value):
    """Whether any value is an ascending tuple of points such that each plane holds one of them."""
    _check_points(p, n)
    if not isinstance(value, tuple) or not all([are_elements(p, n, point) for point in value]):
        return False
    return is_ascending(value) and missed_plane(p, n, value) is None


def least_meeting(p, n):
    """The points with at most one element that isn't 0: as few as can meet all planes."""
    _check_points(p, n)
    axes = [only_at(n, at, one) for at in range(n) for one in range(1, p)]
    return tuple(sorted([(0,) * n] + axes))
