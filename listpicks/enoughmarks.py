"""How many marks always have a lot that adds up to nothing, and the condition that tells why."""

from listpicks.errors import Refused
from listpicks.reckoning import least_divisor, only_at, product_of
from listpicks.tables import form_of
from listpicks.zerolots import plus_mark


def is_power(number, prime):
    """Whether a number from 1 on is a power of a prime."""
    left = number
    while left % prime == 0:
        left = left // prime
    return left == 1


def _common_prime(moduli):
    """The prime of which all moduli are powers; others are refused."""
    prime = least_divisor(moduli[0])
    for at, modulus in enumerate(moduli):
        if not is_power(modulus, prime):
            raise Refused(at)
    return prime


def enough(moduli):
    """How many marks always have a lot, but the empty one, that adds up to nothing."""
    _common_prime(moduli)
    return sum(moduli) - len(moduli) + 1


def lacking_marks(moduli):
    """One mark fewer than are enough, without such a lot."""
    found = []
    for at, modulus in enumerate(moduli):
        found.extend([only_at(len(moduli), at, 1)] * (modulus - 1))
    return tuple(found)


def fewest_lots(moduli, many):
    """How many lots of so many marks add up to nothing at least, the empty one counted."""
    return product_of([2] * (many - enough(moduli) + 1))


def _all_totals(moduli, marks):
    """What all lots add up to, in the order of the choices of 0 and 1 that tell which marks they have."""
    found = [(0,) * len(moduli)]
    for mark in marks:
        pairs = [(total, plus_mark(moduli, total, mark)) for total in found]
        found = [total for pair in pairs for total in pair]
    return found


def lot_condition(moduli, marks):
    """The polynomial over the prime that is 1 at the lots that add up to nothing, 0 at all others."""
    prime = _common_prime(moduli)
    worths = [0 if any(total) else 1 for total in _all_totals(moduli, marks)]
    return form_of(prime, ((0, 1),) * len(marks), tuple(worths))
