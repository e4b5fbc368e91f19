"""Lengths of lists that are enough, whatever stands in the lists."""

from listpicks.kinds import is_number
from listpicks.polynomials import degree


def _are_sure(most, powers, lengths):
    """Whether powers have just this sum, and each is less than its length."""
    return sum(powers) == most and all([power < length for power, length in zip(powers, lengths)])


def sure_powers(polynomial, lengths):
    """None, or the powers of some term of the highest degree that are all less than the lengths."""
    most = degree(polynomial)
    for powers, _ in polynomial:
        if _are_sure(most, powers, lengths):
            return powers
    return None


def is_sure(polynomial, lengths, value):
    """Whether any value is such powers."""
    if not isinstance(value, tuple) or not all([is_number(power) for power in value]):
        return False
    if not any([powers == value for powers, _ in polynomial]):
        return False
    return _are_sure(degree(polynomial), value, lengths)


def shortened(lists, powers):
    """Of each list as many of its first elements as its power tells, and one."""
    return tuple([row[:power + 1] for row, power in zip(lists, powers)])
