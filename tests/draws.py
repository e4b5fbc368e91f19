"""What the tests share: fixed draws, plain reckoning of their own, and odd values."""

from fractions import Fraction
from itertools import product

FIELDS = (0, 2, 3, 5, 7, 11, 101)

# Values of every kind that are no polynomial, list, paper or the like of at least one entry.
ODD_VALUES = (
    None, True, False, 0, 1, -1, 7, 10 ** 30, 2.0, 0.5, float("nan"), 1j, "", "a", "pick", b"", b"ab",
    [], {}, set(), frozenset(), range(2), object(), len, int, Ellipsis, [()], [[]], {"a": 1}, ["pick", "paper"],
    (None,), (True,), ("pick",), ("paper",), ("pick", None), ("paper", None), (1, 2, 3), ((1, 2), 3), (0.0,),
    ([],), ((None,),), (((),),), ((((),),),), iter(()), Fraction(1),
)


class Draws:
    """A small generator of numbers with a fixed beginning."""

    def __init__(self, seed):
        self.state = seed * 7919 + 12345

    def below(self, many):
        self.state = (self.state * 6364136223846793005 + 1442695040888963407) % 2 ** 64
        return (self.state >> 33) % many

    def between(self, low, high):
        return low + self.below(high - low + 1)

    def one_of(self, things):
        return things[self.below(len(things))]

    def element(self, p, size=9):
        return self.below(p) if p else self.between(-size, size)

    def polynomial(self, p, n, many, most):
        totals = {}
        for _ in range(many):
            powers = tuple(self.between(0, most) for _ in range(n))
            totals[powers] = totals.get(powers, 0) + self.element(p)
        return told(p, totals)

    def row(self, p, length):
        found = []
        while len(found) < length:
            one = self.element(p, 15)
            if one not in found:
                found.append(one)
        return tuple(sorted(found))

    def lists(self, p, lengths):
        return tuple(self.row(p, length) for length in lengths)

    def lengths(self, p, n, most):
        greatest = min(most, p) if p else most
        return tuple(self.between(1, greatest) for _ in range(n))


def told(p, totals):
    """The polynomial for a dict of factors by powers."""
    reduced = ((powers, factor % p if p else factor) for powers, factor in totals.items())
    return tuple(sorted((powers, factor) for powers, factor in reduced if factor))


def summed(p, *polynomials):
    totals = {}
    for polynomial in polynomials:
        for powers, factor in polynomial:
            totals[powers] = totals.get(powers, 0) + factor
    return told(p, totals)


def multiplied(p, *polynomials):
    found = None
    for polynomial in polynomials:
        if found is None:
            found = told(p, dict(polynomial))
            continue
        totals = {}
        for powers, factor in found:
            for others, share in polynomial:
                key = tuple(a + b for a, b in zip(powers, others))
                totals[key] = totals.get(key, 0) + factor * share
        found = told(p, totals)
    return found


def negative(p, polynomial):
    return told(p, {powers: -factor for powers, factor in polynomial})


def number_polynomial(p, n, number):
    return told(p, {(0,) * n: number})


def row_product(p, n, at, row):
    """The product of (unknown at less the element) over a row."""
    found = number_polynomial(p, n, 1)
    for one in row:
        powers = tuple(int(k == at) for k in range(n))
        found = multiplied(p, found, told(p, {powers: 1, (0,) * n: -one}))
    return found


def paper_total(p, lists, paper):
    n = len(lists)
    return summed(p, *[multiplied(p, entry, row_product(p, n, at, lists[at])) for at, entry in enumerate(paper)])


def plain_worth(p, polynomial, choice):
    total = 0
    for powers, factor in polynomial:
        for one, power in zip(choice, powers):
            factor *= one ** power
        total += factor
    return total % p if p else total


def plain_choices(lists):
    return list(product(*lists))


def plain_table(p, polynomial, lists):
    return tuple(plain_worth(p, polynomial, choice) for choice in plain_choices(lists))


def plain_differences(p, lists, choice):
    found = 1
    for row, one in zip(lists, choice):
        for other in row:
            if other != one:
                found *= one - other
    return found % p if p else found


def divided_worth(p, worth, below):
    """worth divided by below: an element, over 0 a fraction."""
    return worth * pow(below, -1, p) % p if p else Fraction(worth, below)


def plain_degree(polynomial):
    return max((sum(powers) for powers, _ in polynomial), default=-1)


def all_below(lengths):
    return list(product(*[range(length) for length in lengths]))


def only_tuples(value):
    """Whether a value is made of tuples, integers, strings and None alone."""
    if isinstance(value, tuple):
        return type(value) is tuple and all(only_tuples(one) for one in value)
    return value is None or type(value) in (int, str)


def is_told_polynomial(p, n, value):
    """Whether a value has just the form of a polynomial, powers of any size."""
    if not only_tuples(value) or list(value) != sorted(value) or len({term[0] for term in value}) != len(value):
        return False
    for powers, factor in value:
        if len(powers) != n or min(powers) < 0 or factor == 0 or (p and not 0 < factor < p):
            return False
    return True


# Ten lists of twelve elements each: far more choices than could be gone through.
def far_too_many(p):
    return tuple(tuple(range(at, at + 12)) for at in range(10)) if p == 0 else (tuple(range(12)),) * 10


JUST_SO_MANY = tuple(tuple(range(length)) for length in (10, 10, 10, 10, 2))
MORE = tuple(tuple(range(length)) for length in (12, 12, 10, 7, 2))
MORE_COUNT = 20160
