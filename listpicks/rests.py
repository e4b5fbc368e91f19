"""What powers leave when they are divided by the product of (unknown less element) over a list."""

from listpicks.fields import element
from listpicks.reckoning import exchanged, highest


def product_factors(p, row):
    """The factors of the product of (unknown less element) over a row, from the power 0 on."""
    found = [1]
    for one in row:
        raised = [0] + found
        lowered = [-one * factor for factor in found] + [0]
        found = [element(p, above + below) for above, below in zip(raised, lowered)]
    return found


def remainders(p, row, most):
    """For each power up to most the factors, from the power 0 on, of what it leaves by a row's product."""
    product = product_factors(p, row)
    rest = [1] + [0] * (len(row) - 1)
    found = [rest]
    for _ in range(most):
        top = rest[-1]
        rest = [element(p, above - top * below) for above, below in zip([0] + rest[:-1], product)]
        found.append(rest)
    return found


def tops(p, row, most):
    """For each power up to most the highest factor of what it leaves by a row's product."""
    return [rest[-1] for rest in remainders(p, row, most)]


def rest_table(p, row, most):
    """What each power up to most leaves by a row's product, as a table for exchanged."""
    found = []
    for rest in remainders(p, row, most):
        found.append([(power, factor) for power, factor in enumerate(rest) if factor != 0])
    return found


def quotient_table(p, row, most):
    """How often a row's product goes into each power up to most, as a table for exchanged."""
    # The next higher power is the unknown times what this one leaves, so its top goes into it once more.
    highest_factors = tops(p, row, most)
    found = []
    for power in range(most + 1):
        found.append([(step, highest_factors[power - 1 - step]) for step in range(power - len(row) + 1)])
    return found


def rest_of(p, polynomial, lists):
    """The polynomial with powers below the lengths of the lists that has the same worths at all choices."""
    terms = polynomial
    for at, row in enumerate(lists):
        most = highest(terms, at)
        # Lower powers stay as they are.
        if most >= len(row):
            terms = exchanged(p, terms, at, rest_table(p, row, most))
    return tuple(sorted(terms))
