"""Powers, products and rows of numbers, and terms in no order yet, from which polynomials are put together."""

from listpicks.fields import element


def reduced(p, totals):
    """The dict of the elements that the integers of a dict stand for, without those that are 0."""
    found = {}
    for key, total in totals.items():
        factor = element(p, total)
        if factor != 0:
            found[key] = factor
    return found


def gathered(p, totals):
    """The polynomial with the factors, any integers, that a dict tells by their powers."""
    return tuple(sorted(reduced(p, totals).items()))


def product_of(numbers):
    """The product of some numbers, 1 for none."""
    found = 1
    for number in numbers:
        found = found * number
    return found


def least_divisor(number):
    """The least number from 2 on that divides a number from 2 on: a prime."""
    found = 2
    while number % found != 0:
        found = found + 1
    return found


def row_times(row, column):
    """The sum of the numbers of a row, each times the number of a column at its place."""
    return sum([one * other for one, other in zip(row, column)])


def only_at(n, at, number):
    """The tuple of n numbers with one at its place, all others 0."""
    return (0,) * at + (number,) + (0,) * (n - at - 1)


def powers_up_to(p, one, most):
    """The list of the powers of an element, from the power 0 to the power most."""
    found = [1]
    for _ in range(most):
        found.append(element(p, found[-1] * one))
    return found


def highest(terms, at):
    """The greatest power that an unknown has in some terms, 0 without terms."""
    return max([powers[at] for powers, _ in terms], default=0)


def exchanged(p, terms, at, table):
    """The terms, in any order, that come if all powers of one unknown are exchanged.

    The table tells, for each power, the pairs (power, factor) whose sum stands for it.
    """
    # Terms that are like but for this unknown are put together before any powers are built anew.
    columns = {}
    for powers, factor in terms:
        column = columns.setdefault((powers[:at], powers[at + 1:]), {})
        for power, share in table[powers[at]]:
            column[power] = column.get(power, 0) + factor * share
    found = []
    for (ahead, behind), column in columns.items():
        for power, factor in reduced(p, column).items():
            found.append((ahead + (power,) + behind, factor))
    return found
