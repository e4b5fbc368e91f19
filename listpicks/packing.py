"""Terms by codes: one number has all powers as its digits, so that adding codes adds all powers at once."""

from listpicks.reckoning import gathered


def highest_power(polynomial):
    """The greatest power of all unknowns, 0 for the polynomial 0."""
    return max([max(powers) for powers, _ in polynomial], default=0)


def packed(polynomial, base):
    """The factors of a polynomial by the codes of its powers, which are below the base."""
    found = {}
    for powers, factor in polynomial:
        code = 0
        for power in powers:
            code = code * base + power
        found[code] = factor
    return found


def _powers_of(code, base, n):
    powers = []
    for _ in range(n):
        code, power = divmod(code, base)
        powers.append(power)
    return tuple(powers[::-1])


def unpacked(p, totals, base, n):
    """The polynomial in n unknowns with the factors, any integers, that a dict tells by codes."""
    return gathered(p, {_powers_of(code, base, n): total for code, total in totals.items()})
