"""Choices at which no factor is 0, counted and found unknown by unknown along an order.

A table here is a pair (places, numbers): some unknowns, ascending, and a number
for each choice from their lists, these in ascending order.
"""

from listpicks.errors import Refused
from listpicks.gridmaps import all_worths
from listpicks.lists import MOST_CHOICES, choice_count
from listpicks.touching import reach_along, touched


def _check_scopes(scopes, lists):
    """Refuse unknowns for which too many choices would be gone through."""
    for places in scopes:
        count = choice_count([lists[at] for at in places])
        if count > MOST_CHOICES:
            raise Refused(count)


def _factor_table(p, factor, lists):
    """The table with 1 at the choices at which a factor isn't 0, and 0 at all others."""
    places = touched(factor)
    rows = tuple([row if at in places else row[:1] for at, row in enumerate(lists)])
    return places, [int(one != 0) for one in all_worths(p, factor, rows)]


def _indexes(table_places, places, lists):
    """For each choice from the lists of some places the index that it has in a table of some of them."""
    found = [0]
    for at in places:
        size = choice_count([lists[other] for other in table_places if other > at])
        steps = [k * size if at in table_places else 0 for k in range(len(lists[at]))]
        found = [ahead + step for ahead in found for step in steps]
    return found


def _product_numbers(tables, places, lists):
    """For each choice from the lists of some places the product of what tables of some of them tell."""
    found = [1] * choice_count([lists[at] for at in places])
    for table_places, numbers in tables:
        indexes = _indexes(table_places, places, lists)
        found = [one * numbers[at] for one, at in zip(found, indexes)]
    return found


def _blocks(numbers, size):
    return [numbers[at:at + size] for at in range(0, len(numbers), size)]


def _along(p, factors, lists, order):
    """The pair (steps, total): for each unknown, in order, how many choices there are, and how many in all.

    A step is a pair (places, blocks): the unknowns that are reached, and for
    each choice from their lists how often each element is picked with it, the
    unknowns ahead being picked in all ways.
    """
    scopes = reach_along(len(lists), factors, order)
    _check_scopes([reached + (at,) for reached, at in zip(scopes, order)], lists)
    tables = [_factor_table(p, factor, lists) for factor in factors]
    steps = []
    for reached, at in zip(scopes, order):
        taken = [table for table in tables if at in table[0]]
        tables = [table for table in tables if at not in table[0]]
        blocks = _blocks(_product_numbers(taken, reached + (at,), lists), len(lists[at]))
        steps.append((reached, blocks))
        tables.append((reached, [sum(block) for block in blocks]))
    # All that is left tells a single number.
    return steps, _product_numbers(tables, (), lists)[0]


def pick_count(p, factors, lists, order):
    """At how many choices no factor is 0."""
    _, total = _along(p, factors, lists, order)
    return total


def some_pick(p, factors, lists, order):
    """None, or some choice at which no factor is 0."""
    steps, total = _along(p, factors, lists, order)
    if total == 0:
        return None
    places = {}
    for (reached, blocks), at in zip(steps[::-1], order[::-1]):
        block = blocks[_index_of(reached, places, lists)]
        places[at] = [k for k, many in enumerate(block) if many > 0][0]
    return tuple([row[places[at]] for at, row in enumerate(lists)])


def _index_of(reached, places, lists):
    """The index of the choice in which the elements with some indexes are picked."""
    found = 0
    for at in reached:
        found = found * len(lists[at]) + places[at]
    return found
