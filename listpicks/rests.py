"""What powers leave when they are divided by the product of (unknown less element) over a list."""

from listpicks.fields import element
from listpicks.packing import highest_power, packed, unpacked
from listpicks.reckoning import product_of, reduced


def product_factors(p, row):
    """The factors of the product of (unknown less element) over a row, from the power 0 on."""
    found = [1]
    for one in row:
        raised = [0] + found
        lowered = [-one * factor for factor in found] + [0]
        found = [element(p, above + below) for above, below in zip(raised, lowered)]
    return found


def remainders(p, row, most):
    """For each power up to most the factors, from the power 0 on, of what it leaves by a row's product."""
    product = product_factors(p, row)
    rest = [1] + [0] * (len(row) - 1)
    found = [rest]
    for _ in range(most):
        top = rest[-1]
        rest = [element(p, above - top * below) for above, below in zip([0] + rest[:-1], product)]
        found.append(rest)
    return found


def tops(p, row, most):
    """For each power up to most the highest factor of what it leaves by a row's product."""
    return [rest[-1] for rest in remainders(p, row, most)]


def rest_table(p, row, most):
    """What each power up to most leaves by a row's product, as a table for exchanged."""
    found = []
    for rest in remainders(p, row, most):
        found.append([(power, factor) for power, factor in enumerate(rest) if factor != 0])
    return found


def quotient_table(p, row, most):
    """How often a row's product goes into each power up to most, as a table for exchanged."""
    # The next higher power is the unknown times what this one leaves, so its top goes into it once more.
    highest_factors = tops(p, row, most)
    found = []
    for power in range(most + 1):
        found.append([(step, highest_factors[power - 1 - step]) for step in range(power - len(row) + 1)])
    return found


def rest_of(p, polynomial, lists):
    """The polynomial with powers below the lengths of the lists that has the same worths at all choices."""
    return _rest_along(p, polynomial, lists, list(range(len(lists))))


def quick_rest(p, polynomial, lists):
    """The same, with the shortest lists first: where choices are few, there are fewest terms on the way."""
    pairs = sorted([(len(row), place) for place, row in enumerate(lists)])
    return _rest_along(p, polynomial, lists, [at for _, at in pairs])


def _rest_along(p, polynomial, lists, order):
    base = max(highest_power(polynomial), max([len(row) for row in lists])) + 1
    totals = packed(polynomial, base)
    for at in order:
        weight = product_of([base] * (len(lists) - 1 - at))
        totals = _left_by(p, totals, lists[at], base, weight)
    return unpacked(p, totals, base, len(lists))


def _left_by(p, totals, row, base, weight):
    """What is left, by codes, if the powers that stand at one digit are divided by a row's product."""
    most = max([code // weight % base for code in totals], default=0)
    if most < len(row):
        return totals
    table = rest_table(p, row, most)
    found = {}
    for code, factor in totals.items():
        power = code // weight % base
        bare = code - power * weight
        for step, share in table[power]:
            key = bare + step * weight
            found[key] = found.get(key, 0) + factor * share
    return reduced(p, found)
