"""Tables of numbers over a grid, mapped list by list.

A table has a number for each choice, in ascending order of the choices. A map
for one list is a pair (rows, share): a column, the numbers for the elements of
this list where the other ones stay, becomes the sums of its numbers times
those of each row, divided by the share. The share is 1 but over the field 0.
"""

from math import lcm

from listpicks.fields import element, inverse
from listpicks.reckoning import powers_up_to, product_of, row_times
from listpicks.rests import product_factors, quick_rest


def mapped(p, table, maps):
    """The table behind all maps, one for each list; None if a division over 0 leaves anything."""
    found = list(table)
    # The last list's columns lie together; mapped, it becomes the first one, so that each has its turn.
    for rows, share in reversed(maps):
        size = len(rows[0])
        columns = [found[at:at + size] for at in range(0, len(found), size)]
        found = [row_times(row, column) for row in rows for column in columns]
        if any([number % share != 0 for number in found]):
            return None
        found = [element(p, number // share) for number in found]
    return found


def differences_in(p, row, one):
    """The product of the differences of one element of a row from all others."""
    return element(p, product_of([one - other for other in row if other != one]))


def weights(p, row):
    """The pair (numbers, share): each number over the share is 1 divided by an element's differences."""
    found = [differences_in(p, row, one) for one in row]
    if p != 0:
        return [inverse(p, product) for product in found], 1
    share = 1
    for product in found:
        share = lcm(share, product)
    return [share // product for product in found], share


def worth_map(p, row):
    """The map from the factors of the powers of an unknown to the worths at its list."""
    return [powers_up_to(p, one, len(row) - 1) for one in row], 1


def form_map(p, row):
    """The map from the worths at a list to the factors of the powers of its unknown."""
    numbers, share = weights(p, row)
    columns = []
    for at, number in enumerate(numbers):
        mark = product_factors(p, row[:at] + row[at + 1:])
        columns.append([factor * number for factor in mark])
    return [[column[power] for column in columns] for power in range(len(row))], share


def weight_map(p, row):
    """The map from the worths at a list to their sum, each divided by its element's differences."""
    numbers, share = weights(p, row)
    return [numbers], share


def check_map(p, row):
    """The map from the worths at a list to their sums times each power, divided by the differences; p is not 0."""
    numbers, _ = weights(p, row)
    columns = []
    for one, number in zip(row, numbers):
        columns.append([power * number for power in powers_up_to(p, one, len(row) - 1)])
    return [[column[at] for column in columns] for at in range(len(row))], 1


def piece_map(p, row, pieces):
    """The map from the worths at a list to the sums of weight_map for each of its pieces; p is not 0."""
    rows = []
    ahead = 0
    for piece in pieces:
        numbers, _ = weights(p, piece)
        rows.append([0] * ahead + numbers + [0] * (len(row) - ahead - len(piece)))
        ahead = ahead + len(piece)
    return rows, 1


def _table_of_form(form, lists):
    """The factors of a least form as a table, powers in the place of elements."""
    table = [0] * product_of([len(row) for row in lists])
    for powers, factor in form:
        place = 0
        for power, row in zip(powers, lists):
            place = place * len(row) + power
        table[place] = factor
    return table


def all_worths(p, polynomial, lists):
    """The list of the worths of a polynomial at all choices, these in ascending order."""
    table = _table_of_form(quick_rest(p, polynomial, lists), lists)
    return mapped(p, table, [worth_map(p, row) for row in lists])
