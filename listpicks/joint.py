"""Choices at which equations are 0 and a polynomial isn't, or joint papers; the field is not 0."""

from listpicks.deciding import PAPER, PICK
from listpicks.fields import element, inverse
from listpicks.gridmaps import all_worths
from listpicks.kinds import is_pair
from listpicks.lists import choices
from listpicks.polynomials import are_polynomials, minus, plus, times
from listpicks.tables import form_of
from listpicks.vanishing import paper_sum, vanishing_paper


def _factor_sum(p, equations, factors):
    total = ()
    for equation, factor in zip(equations, factors):
        total = plus(p, total, times(p, equation, factor))
    return total


def joint_sum(p, equations, lists, paper):
    """The sum of all equations, each times its factor, and of the paper."""
    factors, rest = paper
    return plus(p, _factor_sum(p, equations, factors), paper_sum(p, lists, rest))


def is_joint_paper(p, equations, polynomial, lists, value):
    """Whether any value is a joint paper whose sum is the polynomial."""
    if not is_pair(value):
        return False
    n = len(lists)
    factors, rest = value
    if not are_polynomials(p, n, len(equations), factors) or not are_polynomials(p, n, n, rest):
        return False
    return joint_sum(p, equations, lists, value) == polynomial


def _first_solution(rows, wanted, tables):
    """None, or the first choice at which all tables have 0 and what is wanted isn't 0."""
    for place, choice in enumerate(rows):
        if wanted[place] != 0 and all([table[place] == 0 for table in tables]):
            return choice
    return None


def _factors(p, wanted, tables, lists):
    """For each table the polynomial by which it is multiplied, so that all of them add up to what is wanted."""
    found = []
    left = wanted
    for table in tables:
        # The first table that isn't 0 at a choice makes all that is wanted there.
        shares = [element(p, one * inverse(p, below)) if below != 0 else 0 for one, below in zip(left, table)]
        left = [one if below == 0 else 0 for one, below in zip(left, table)]
        found.append(form_of(p, lists, tuple(shares)))
    return tuple(found)


def solved(p, equations, polynomial, lists):
    """The pair ("pick", choice), or ("paper", joint paper), for equations and a polynomial."""
    rows = choices(lists)
    wanted = all_worths(p, polynomial, lists)
    tables = [all_worths(p, equation, lists) for equation in equations]
    choice = _first_solution(rows, wanted, tables)
    if choice is not None:
        return PICK, choice
    factors = _factors(p, wanted, tables, lists)
    rest = minus(p, polynomial, _factor_sum(p, equations, factors))
    return PAPER, (factors, vanishing_paper(p, rest, lists))
