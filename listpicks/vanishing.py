"""Papers: sums of multiples of the lists' own products."""

from listpicks.division import divided
from listpicks.lists import list_product
from listpicks.polynomials import are_polynomials, degree, plus, times


def paper_sum(p, lists, paper):
    """The sum of the entries of a paper, each times the product of its list."""
    n = len(lists)
    total = ()
    for at, row in enumerate(lists):
        total = plus(p, total, times(p, paper[at], list_product(p, n, at, row)))
    return total


def _is_low(entry, most):
    return entry == () or degree(entry) <= most


def is_vanishing_paper(p, polynomial, lists, value):
    """Whether any value is a paper of the polynomial."""
    n = len(lists)
    if not are_polynomials(p, n, n, value):
        return False
    most = degree(polynomial)
    if not all([_is_low(entry, most - len(row)) for entry, row in zip(value, lists)]):
        return False
    return paper_sum(p, lists, value) == polynomial


def vanishing_paper(p, polynomial, lists):
    """None, or some paper of the polynomial."""
    quotients, rest = divided(p, polynomial, lists)
    if rest != ():
        return None
    return quotients
