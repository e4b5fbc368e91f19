"""What the elements of choices add up to, and how few sums there can be."""

from listpicks.fields import element
from listpicks.lists import check_count


def _sums_behind(p, lists):
    """For each place a dict with the sums of choices from the lists from there on, last 0 for no lists."""
    if p == 0:
        check_count(lists)
    found = [{0: True}]
    for row in reversed(lists):
        behind = found[-1]
        found.append({element(p, one + other): True for one in row for other in behind})
    return found[::-1]


def sums(p, lists):
    """All sums of choices."""
    return tuple(sorted(_sums_behind(p, lists)[0]))


def sum_choice(p, lists, total):
    """None, or some choice with a sum."""
    tables = _sums_behind(p, lists)
    if total not in tables[0]:
        return None
    choice = []
    left = total
    for row, behind in zip(lists, tables[1:]):
        one, left = _first_step(p, row, behind, left)
        choice.append(one)
    return tuple(choice)


def _first_step(p, row, behind, total):
    """The first element of a row behind which there is a sum that makes a total, and this sum."""
    for one in row:
        left = element(p, total - one)
        if left in behind:
            return one, left
    return None


def at_most_the_field(p, number):
    """A number, or p if this is less and not 0: there are no more elements."""
    if p == 0:
        return number
    return min(number, p)


def fewest_sums(p, lengths):
    """How many sums lists of these lengths have at least."""
    return at_most_the_field(p, sum(lengths) - len(lengths) + 1)


def least_sum_lists(lengths):
    """Lists of these lengths with as few sums as can be: the numbers below each."""
    return tuple([tuple(range(length)) for length in lengths])


def sum_outside(p, lists, barred):
    """None, or some choice whose sum is none of some elements."""
    closed = {one: True for one in barred}
    for total in sums(p, lists):
        if total not in closed:
            return sum_choice(p, lists, total)
    return None
