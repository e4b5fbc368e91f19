"""Lives: conditions and lists with the evidence that tells whether there is a choice."""

from listpicks.deciding import decided, is_decision
from listpicks.errors import InvalidQuestion
from listpicks.fields import is_field
from listpicks.kinds import is_number
from listpicks.lists import are_lists
from listpicks.polynomials import GREATEST_POWER, constant, is_polynomial, product_polynomial, times
from listpicks.reckoning import highest

MOST_CONDITIONS = 12
MOST_TERMS = 3000


def whole_condition(p, n, conditions):
    """The product of some polynomials, the polynomial 1 if there are none."""
    return product_polynomial(p, n, conditions)


def is_told_polynomial(p, n, value):
    """Whether any value is a polynomial with at most 3,000 terms and powers up to 40."""
    return isinstance(value, tuple) and len(value) <= MOST_TERMS and is_polynomial(p, n, value)


def _is_high(n, one, other):
    """Whether a product has a power above 40: the highest powers of an unknown are never lost."""
    return any([highest(one, at) + highest(other, at) > GREATEST_POWER for at in range(n)])


def _has_surely_more(p, one, other, many):
    """Whether so many first terms of two polynomials tell that their product has more than 3,000 terms."""
    # Terms are ascending, and stay so if powers are added: what comes behind the first ones is at or above this.
    ends = [_powers_sum(one[many:many + 1], other[:1]), _powers_sum(one[:1], other[many:many + 1])]
    bound = min([end for end in ends if end is not None])
    found = times(p, one[:many], other[:many])
    return len([powers for powers, _ in found if powers < bound]) > MOST_TERMS


def _powers_sum(one, other):
    """None if there is no first term in one of two polynomials, otherwise the sum of the powers of both."""
    if one == () or other == ():
        return None
    return tuple([power + more for power, more in zip(one[0][0], other[0][0])])


def short_product(p, n, one, other):
    """None if the product has more than 3,000 terms or a power above 40, otherwise the product."""
    if one == () or other == ():
        return ()
    if _is_high(n, one, other):
        return None
    many = 100
    while many < max(len(one), len(other)):
        if _has_surely_more(p, one, other, many):
            return None
        many = 2 * many
    found = times(p, one, other)
    return found if len(found) <= MOST_TERMS else None


def told_condition(p, n, value):
    """None if any value is not what a life may have as its conditions, otherwise their product."""
    if not isinstance(value, tuple) or len(value) > MOST_CONDITIONS:
        return None
    if not all([is_told_polynomial(p, n, one) for one in value]):
        return None
    found = constant(p, n, 1)
    for condition in value:
        found = short_product(p, n, found, condition)
        if found is None:
            return None
    return found


def _are_life_lists(p, n, value):
    return are_lists(p, value) and len(value) == n


def is_life(value):
    """Whether any value is a life."""
    if not isinstance(value, tuple) or len(value) != 5:
        return False
    p, n, conditions, lists, evidence = value
    if not is_field(p) or not is_number(n) or not _are_life_lists(p, n, lists):
        return False
    whole = told_condition(p, n, conditions)
    return whole is not None and is_decision(p, whole, lists, evidence)


def begun(p, n, conditions, lists):
    """Some life with these conditions and lists."""
    whole = told_condition(p, n, conditions)
    if whole is None:
        raise InvalidQuestion(2)
    if not _are_life_lists(p, n, lists):
        raise InvalidQuestion(3)
    return p, n, conditions, lists, decided(p, whole, lists)
