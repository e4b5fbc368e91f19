"""Polynomials of some others, the parts, that are 0 only where all of these are.

Over the field 0 that is the sum of their squares. Over a field p let a be a
zero of a polynomial in one unknown of a prime degree k that cannot be divided.
The sum of the parts, each times a power of a from 0 on, then has an inverse
wherever a part isn't 0. So multiplying by it is a map whose determinant is a
sum of products of k parts, and 0 only where all parts are. Where the number of
parts is no prime, those of some lots of them are taken in their place.
"""

from listpicks.fields import element
from listpicks.polynomials import constant, minus, plus, scaled, times
from listpicks.reckoning import least_divisor


def norm_of(p, n, parts):
    """Some polynomial that is 0 only where all parts are, the only part if there is one.

    If the greatest degree of a part is d, it has the degree d times their
    number, over the field 0 twice d.
    """
    if len(parts) == 1:
        return parts[0]
    if p == 0:
        return _square_sum(parts)
    prime = least_divisor(len(parts))
    size = len(parts) // prime
    norms = [norm_of(p, n, parts[at:at + size]) for at in range(0, len(parts), size)]
    return _determinant(p, n, _multiplying(p, norms, _irreducible(p, prime)))


def _square_sum(parts):
    found = ()
    for part in parts:
        found = plus(0, found, times(0, part, part))
    return found


def _irreducible(p, k):
    """The factors below the highest one, 1, of some polynomial in one unknown of a prime degree k without divisors."""
    code = 1
    while not _is_irreducible(p, _digits(p, k, code)):
        code = code + 1
    return _digits(p, k, code)


def _digits(p, k, code):
    found = []
    left = code
    for _ in range(k):
        left, digit = divmod(left, p)
        found.append(digit)
    return found


def _is_irreducible(p, low):
    if any([_worth_at(p, low, one) == 0 for one in range(p)]):
        return False
    # All its zeros lie where the unknown to the power p to the k is the unknown itself, and none where p would do.
    start = [0, 1] + [0] * (len(low) - 2)
    power = start
    for _ in range(len(low)):
        power = _raised(p, low, power)
    return power == start


def _worth_at(p, low, one):
    total = 1
    for factor in low[::-1]:
        total = (total * one + factor) % p
    return total


def _raised(p, low, residue):
    """A residue by the polynomial to the power p."""
    found = [1] + [0] * (len(low) - 1)
    square = residue
    left = p
    while left > 0:
        if left % 2 == 1:
            found = _residue_times(p, low, found, square)
        square = _residue_times(p, low, square, square)
        left = left // 2
    return found


def _residue_times(p, low, one, other):
    found = [0] * len(low)
    shifted = one
    for factor in other:
        found = [element(p, total + factor * below) for total, below in zip(found, shifted)]
        shifted = [element(p, above - shifted[-1] * below) for above, below in zip([0] + shifted[:-1], low)]
    return found


def _multiplying(p, parts, low):
    """The rows of the map that multiplies by the sum of the parts, each times a power of a."""
    row = list(parts)
    found = [row]
    while len(found) < len(row):
        ahead = [()] + row[:-1]
        row = [minus(p, above, scaled(p, row[-1], factor)) for above, factor in zip(ahead, low)]
        found.append(row)
    return found


def _determinant(p, n, rows):
    """The determinant of rows of polynomials, row by row: each lot of columns has its own, told by a number."""
    found = {0: constant(p, n, 1)}
    for row in rows:
        ahead = found
        found = {}
        for lot, minor in ahead.items():
            for at, entry in enumerate(row):
                if lot >> at & 1 == 0:
                    share = times(p, minor, scaled(p, entry, _sign(lot, at)))
                    key = lot + (1 << at)
                    found[key] = plus(p, found.get(key, ()), share)
    return found[(1 << len(rows)) - 1]


def _sign(lot, at):
    """1 or -1: how often a column comes ahead of those of a lot."""
    behind = 0
    left = lot >> at
    while left > 0:
        behind = behind + left % 2
        left = left // 2
    return 1 if behind % 2 == 0 else -1
