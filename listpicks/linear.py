"""Rows of elements of a field that is not 0, taken from each other until their beginnings are unlike."""

from listpicks.fields import element, inverse
from listpicks.reckoning import row_times


def stairs(p, rows):
    """Pairs (place, row): rows with the same multiples, each 1 at its place, 0 at the places of those ahead."""
    found = []
    for row in rows:
        left = _reduced(p, found, row)
        place = _first_place(left)
        if place is not None:
            share = inverse(p, left[place])
            found.append((place, [element(p, one * share) for one in left]))
    return found


def _reduced(p, found, row):
    left = row
    for place, other in found:
        many = left[place]
        if many != 0:
            left = [element(p, one - many * below) for one, below in zip(left, other)]
    return left


def _first_place(row):
    for place, one in enumerate(row):
        if one != 0:
            return place
    return None


def solution(p, rows, many):
    """None, or so many elements with which each row has just the sum that is its last entry."""
    found = stairs(p, rows)
    numbers = [0] * many
    # A row has 0 at the places of those ahead, so the last one is settled first.
    for place, row in found[::-1]:
        if place == many:
            return None
        numbers[place] = element(p, row[many] - row_times(row, numbers))
    return numbers
