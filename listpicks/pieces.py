"""The factor of one term in a product of many factors, found by pieces along an order."""

from listpicks.polynomials import constant, factor_of, times
from listpicks.reckoning import highest


def _is_low(powers, most):
    return all([power <= bound for power, bound in zip(powers, most)])


def _low_terms(polynomial, most):
    """The terms of a polynomial with powers nowhere greater."""
    return tuple([(powers, factor) for powers, factor in polynomial if _is_low(powers, most)])


def _low_product(p, n, factors, most):
    """The terms of a product with powers nowhere greater; powers never come down by multiplying."""
    found = constant(p, n, 1)
    for factor in factors:
        found = _low_terms(times(p, found, _low_terms(factor, most)), most)
    return found


def _piece(p, taken, powers, at):
    """The terms of the product of what was taken in which an unknown has just its power, without this power."""
    n = len(powers)
    found = _low_product(p, n, taken, powers)
    return tuple([(one[:at] + (0,) + one[at + 1:], factor) for one, factor in found if one[at] == powers[at]])


def _along(p, factors, powers, order):
    """The pair (pieces, left): all pieces, in order, and what was never taken."""
    left = list(factors)
    found = []
    for at in order:
        taken = [one for one in left if highest(one, at) > 0]
        left = [one for one in left if highest(one, at) == 0]
        piece = _piece(p, taken, powers, at)
        found.append(piece)
        left.append(piece)
    return found, left


def factor_along(p, n, factors, powers, order):
    """The factor that the term with these powers has in the product of all factors."""
    _, left = _along(p, factors, powers, order)
    # Whatever touches an unknown was taken.
    nothing = (0,) * n
    return factor_of(_low_product(p, n, left, nothing), nothing)


def piece_sizes(p, n, factors, powers, order):
    """The numbers of terms of the pieces, in order."""
    found, _ = _along(p, factors, powers, order)
    return tuple([len(piece) for piece in found])
