"""The factors that make sums many: those of one term in powers of the sum of all unknowns."""

from math import factorial

from listpicks.fields import element
from listpicks.reckoning import product_of


def _divided_out(number, lengths):
    """A number divided by the product of the numbers below each length."""
    return number // product_of([factorial(length - 1) for length in lengths])


def sums_factor(p, lengths):
    """The factor of the powers length less 1 in the sum of all unknowns to the power of their sum."""
    return element(p, _divided_out(factorial(sum(lengths) - len(lengths)), lengths))


def unlike_factor(p, lengths):
    """The same factor in the product of all differences and the power of the sum that is left."""
    n = len(lengths)
    left = sum(lengths) - n - n * (n - 1) // 2
    if left < 0:
        return 0
    steps = [later - earlier for at, later in enumerate(lengths) for earlier in lengths[:at]]
    return element(p, _divided_out(factorial(left) * product_of(steps), lengths))
