"""What polynomials add up to over all points; the field is not 0."""

from listpicks.fields import element
from listpicks.polynomials import unknown


def all_lists(p, n):
    """The n lists of all elements."""
    return (tuple(range(p)),) * n


def _counts(p, powers):
    """Whether the worths of a term with these powers don't add up to 0."""
    return all([power > 0 and power % (p - 1) == 0 for power in powers])


def total_worth(p, n, polynomial):
    """The sum of the worths at all points; none is gone through."""
    total = sum([factor for powers, factor in polynomial if _counts(p, powers)])
    return element(p, total if n % 2 == 0 else -total)


def zero_unknowns(p, n, many):
    """The polynomials that stand for the first so many unknowns."""
    return tuple([unknown(p, n, at) for at in range(many)])
