"""Tables of polynomials of low degrees, and the sums by which they are checked; the field is not 0."""

from listpicks.errors import Refused
from listpicks.gridmaps import check_map, mapped
from listpicks.kinds import are_elements
from listpicks.lists import all_tuples
from listpicks.reckoning import product_of

MOST_WORTHS = 256


def check_lengths(lengths):
    """Refuse lengths whose product is greater than that of a table."""
    count = product_of(lengths)
    if count > MOST_WORTHS:
        raise Refused(count)


def lengths_of(lists):
    """The lengths of lists with no more choices than a table has; others are refused."""
    lengths = tuple([len(row) for row in lists])
    check_lengths(lengths)
    return lengths


def _all_powers(lengths):
    return all_tuples([list(range(length)) for length in lengths])


def code_powers(lengths, d):
    """All tuples of a number below each length whose sum is at most d, ascending."""
    check_lengths(lengths)
    return tuple([powers for powers in _all_powers(lengths) if sum(powers) <= d])


def check_sums(p, lists, d, table):
    """The sums that are all 0 just for the tables of polynomials of degree d at most."""
    lengths = lengths_of(lists)
    most = sum(lengths) - len(lengths) - 1 - d
    sums = mapped(p, table, [check_map(p, row) for row in lists])
    return tuple([one for one, powers in zip(sums, _all_powers(lengths)) if sum(powers) <= most])


def is_code_table(p, lists, d, value):
    """Whether any value is the table of a polynomial of degree d at most."""
    many = product_of(lengths_of(lists))
    return are_elements(p, many, value) and not any(check_sums(p, lists, d, value))
