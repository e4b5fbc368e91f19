"""Polynomials over a field: ascending tuples of terms (powers, factor)."""

from listpicks.errors import InvalidPolynomial
from listpicks.fields import element
from listpicks.kinds import is_ascending, is_element, is_integer, is_number, is_pair, is_sequence
from listpicks.packing import highest_power, packed, unpacked
from listpicks.reckoning import exchanged, gathered, highest, only_at, powers_up_to

GREATEST_POWER = 40


def _are_powers(n, value):
    return len(value) == n and all([is_number(power) and power <= GREATEST_POWER for power in value])


def _is_term(p, n, value):
    if not is_pair(value) or not isinstance(value[0], tuple):
        return False
    return _are_powers(n, value[0]) and is_element(p, value[1]) and value[1] != 0


def _is_loose_term(n, value):
    """Whether any value is what polynomial_of takes as a term."""
    if not is_pair(value) or not is_sequence(value[0]):
        return False
    return _are_powers(n, value[0]) and is_integer(value[1])


def is_polynomial(p, n, value):
    """Whether any value is a polynomial in n unknowns with powers up to 40."""
    if not isinstance(value, tuple) or not all([_is_term(p, n, term) for term in value]):
        return False
    return is_ascending([powers for powers, _ in value])


def are_polynomials(p, n, many, value):
    """Whether any value is a tuple of so many polynomials in n unknowns."""
    return isinstance(value, tuple) and len(value) == many and all([is_polynomial(p, n, one) for one in value])


def polynomial_of(p, n, terms):
    """The polynomial that is the sum of a sequence of terms in any order, like ones too."""
    if not is_sequence(terms):
        raise InvalidPolynomial(0)
    totals = {}
    for at, term in enumerate(terms):
        if not _is_loose_term(n, term):
            raise InvalidPolynomial(at)
        powers = tuple(term[0])
        totals[powers] = totals.get(powers, 0) + term[1]
    return gathered(p, totals)


def degree(polynomial):
    """The greatest sum of the powers of a term, -1 for the polynomial 0."""
    return max([sum(powers) for powers, _ in polynomial], default=-1)


def factor_of(polynomial, powers):
    """The factor of the term with these powers, 0 if there is none."""
    for term in polynomial:
        if term[0] == powers:
            return term[1]
    return 0


def plus(p, one, other):
    """The sum of two polynomials."""
    totals = {powers: factor for powers, factor in one}
    for powers, factor in other:
        totals[powers] = totals.get(powers, 0) + factor
    return gathered(p, totals)


def minus(p, one, other):
    """The polynomial one less the other one."""
    return plus(p, one, scaled(p, other, -1))


def times(p, one, other):
    """The product of two polynomials."""
    if one == () or other == ():
        return ()
    # No power of the product comes to the base.
    base = highest_power(one) + highest_power(other) + 1
    steps = packed(other, base)
    totals = {}
    for code, factor in packed(one, base).items():
        for step, share in steps.items():
            key = code + step
            totals[key] = totals.get(key, 0) + factor * share
    return unpacked(p, totals, base, len(one[0][0]))


def product_polynomial(p, n, parts):
    """The product of some polynomials in n unknowns, the polynomial 1 if there are none."""
    found = constant(p, n, 1)
    for part in parts:
        found = times(p, found, part)
    return found


def scaled(p, polynomial, factor):
    """The product of a polynomial with an element."""
    return gathered(p, {powers: share * factor for powers, share in polynomial})


def constant(p, n, factor):
    """The polynomial in n unknowns that is one element everywhere."""
    return gathered(p, {(0,) * n: factor})


def unknown(p, n, at):
    """The polynomial in n unknowns that stands for one of them."""
    return gathered(p, {only_at(n, at, 1): 1})


def worth(p, polynomial, choice):
    """The element that a polynomial comes to at a choice."""
    tables = [powers_up_to(p, one, highest(polynomial, at)) for at, one in enumerate(choice)]
    total = 0
    for powers, factor in polynomial:
        share = factor
        for table, power in zip(tables, powers):
            share = share * table[power]
        total = total + share
    return element(p, total)


def put_in(p, polynomial, at, one):
    """The polynomial that comes if an element is put in the place of one unknown."""
    table = [[(0, power)] for power in powers_up_to(p, one, highest(polynomial, at))]
    return tuple(sorted(exchanged(p, polynomial, at, table)))
