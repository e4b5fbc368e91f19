"""Lost worths of tables, and how they are filled in; the field is not 0."""

from listpicks.codes import check_sums, lengths_of
from listpicks.linear import solution, stairs
from listpicks.reckoning import product_of


def _columns(p, lists, d, places):
    """For each of some places the check sums of the table that is 1 there and 0 elsewhere."""
    many = product_of(lengths_of(lists))
    found = []
    for place in places:
        table = [0] * many
        table[place] = 1
        found.append(check_sums(p, lists, d, table))
    return found


def is_enough(p, lists, d, lost):
    """Whether no two unlike code tables differ at the lost places alone."""
    return len(stairs(p, _columns(p, lists, d, lost))) == len(lost)


def filled(p, lists, d, table):
    """None, or some code table with all elements of a table in which others are lost."""
    lost = [place for place, one in enumerate(table) if one is None]
    known = [0 if one is None else one for one in table]
    sums = check_sums(p, lists, d, known)
    columns = _columns(p, lists, d, lost)
    rows = [[column[at] for column in columns] + [-one] for at, one in enumerate(sums)]
    numbers = solution(p, rows, len(lost))
    if numbers is None:
        return None
    for place, number in zip(lost, numbers):
        known[place] = number
    return tuple(known)
