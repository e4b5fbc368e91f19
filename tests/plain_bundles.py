"""What the tests of points [57] to [60] share: tie numbers, all bundles of a size, and all parts of one."""

from itertools import combinations_with_replacement, product
from math import comb


def plain_numbers(web, bundle):
    return tuple(sum(many for tie, many in zip(web[1], bundle) if place in tie) for place in range(web[0]))


def bundles_of(web, size):
    """All bundles of a web with just this size."""
    found = []
    for chosen in combinations_with_replacement(range(len(web[1])), size):
        found.append(tuple(chosen.count(at) for at in range(len(web[1]))))
    return found


def plain_parts(q, web, bundle, is_good):
    """All parts of a bundle whose tie numbers are good."""
    parts = product(*[range(many + 1) for many in bundle])
    return [part for part in parts if any(part) and all(is_good(many) for many in plain_numbers(web, part))]


def plain_divided(q, web, bundle):
    return plain_parts(q, web, bundle, lambda many: many % q == 0)


def plain_equal(q, web, bundle):
    return plain_parts(q, web, bundle, lambda many: many in (0, q))


def plain_count(q, web, bundle):
    total = 1
    for part in plain_divided(q, web, bundle):
        share = 1
        for one, many in zip(part, bundle):
            share *= comb(many, one)
        total += share
    return total
