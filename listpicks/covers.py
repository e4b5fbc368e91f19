"""Planes that hold all choices, all but one, or all but a few."""

from listpicks.fewpicks import least_picks, least_shape
from listpicks.lists import check_count
from listpicks.planes import are_planes, left_over
from listpicks.reckoning import only_at


def is_cover(p, lists, point, value):
    """Whether any value is a tuple of planes by which just the point is left over."""
    check_count(lists)
    return are_planes(p, len(lists), value) and left_over(p, lists, value) == (point,)


def _list_planes(rows):
    """For each of some rows the planes on which its unknown is one of its elements, all ascending."""
    n = len(rows)
    return tuple(sorted([(only_at(n, at, 1), one) for at, row in enumerate(rows) for one in row]))


def least_cover(p, lists, point):
    """The fewest planes, one for each element that a point doesn't have, that hold all choices but this one."""
    return _list_planes([[one for one in row if one != point[at]] for at, row in enumerate(lists)])


def other_left(p, lists, point, planes):
    """None, or some choice but the point that some planes leave."""
    for choice in left_over(p, lists, planes):
        if choice != point:
            return choice
    return None


def fewest_planes(lengths, most):
    """The least number of planes by which some choices, and no more than so many, can be left."""
    many = 0
    while least_picks(lengths, many) > most:
        many = many + 1
    return many


def cover_leaving(p, lists, many):
    """So many planes that leave as few choices as so many can, but some."""
    shape = least_shape([len(row) for row in lists], many)
    return _list_planes([row[:len(row) - left] for row, left in zip(lists, shape)])


def whole_cover(p, lists):
    """The planes of all elements of the shortest list, which hold all choices."""
    lengths = [len(row) for row in lists]
    shortest = lengths.index(min(lengths))
    return _list_planes([row if at == shortest else () for at, row in enumerate(lists)])
