"""Fields: 0 stands for the integers, a prime up to 101 for the numbers below it."""

from listpicks.kinds import is_integer

GREATEST_FIELD = 101


def is_field(value):
    """Whether any value is 0 or a prime up to 101."""
    if not is_integer(value) or value > GREATEST_FIELD:
        return False
    return value == 0 or (value > 1 and all([value % k != 0 for k in range(2, value)]))


def element(p, number):
    """The element of the field p that an integer stands for."""
    if p == 0:
        return number
    return number % p


def inverse(p, one):
    """The element by which an element that isn't 0 is multiplied to 1; p is not 0."""
    # Euclid's steps: left is always found times one, but for multiples of p.
    left, before = one, p
    found, found_before = 1, 0
    while left > 1:
        many = before // left
        before, left = left, before - many * left
        found_before, found = found, found_before - many * found
    return found % p
