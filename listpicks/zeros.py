"""Choices at which all equations are 0; the field is not 0."""

from listpicks.fewpicks import least_picks
from listpicks.gridmaps import all_worths, mapped, weight_map
from listpicks.lists import choices
from listpicks.polynomials import degree


def _zero_marks(p, equations, lists, count):
    """For each choice 1 if all equations are 0 there, 0 otherwise."""
    found = [1] * count
    for equation in equations:
        found = [mark if one == 0 else 0 for mark, one in zip(found, all_worths(p, equation, lists))]
    return found


def common_zeros(p, equations, lists):
    """All choices at which all equations are 0."""
    rows = choices(lists)
    marks = _zero_marks(p, equations, lists, len(rows))
    return tuple([choice for choice, mark in zip(rows, marks) if mark == 1])


def load(p, equations):
    """The greatest degree that the product with worths 1 just at the common zeros can have."""
    return (p - 1) * sum([max(0, degree(equation)) for equation in equations])


def weight_sum(p, equations, lists):
    """The sum, over all common zeros, of 1 divided by the differences."""
    marks = _zero_marks(p, equations, lists, len(choices(lists)))
    return mapped(p, marks, [weight_map(p, row) for row in lists])[0]


def second_zero(p, equations, lists, zero):
    """None, or some common zero but the one that is known."""
    for choice in common_zeros(p, equations, lists):
        if choice != zero:
            return choice
    return None


def fewest_zeros(p, equations, lists):
    """How many common zeros there are at least, if there is one."""
    return least_picks([len(row) for row in lists], load(p, equations))
