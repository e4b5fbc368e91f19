"""Bundles of ties, each there so many times, and their divided and equal parts."""

from listpicks.kinds import is_number

GREATEST_SIZE = 200


def _are_tie_numbers(web, value):
    """Whether any value is a tuple with a number for each tie."""
    return isinstance(value, tuple) and len(value) == len(web[1]) and all([is_number(many) for many in value])


def is_bundle(web, value):
    """Whether any value is a bundle of a web."""
    return _are_tie_numbers(web, value) and sum(value) <= GREATEST_SIZE


def tie_numbers(web, bundle):
    """For each place the sum of the numbers of the ties that have it."""
    found = [0] * web[0]
    for (u, v), many in zip(web[1], bundle):
        found[u] += many
        found[v] += many
    return tuple(found)


def _is_part(web, bundle, value):
    """Whether any value is a bundle of a size above 0 with nowhere a greater number."""
    if not _are_tie_numbers(web, value) or not any(value):
        return False
    return all([many <= most for many, most in zip(value, bundle)])


def is_divided(q, web, bundle, value):
    """Whether any value is a part of a bundle all of whose tie numbers q divides."""
    return _is_part(web, bundle, value) and all([many % q == 0 for many in tie_numbers(web, value)])


def is_equal(q, web, bundle, value):
    """Whether any value is a part of a bundle all of whose tie numbers are 0 or q."""
    return _is_part(web, bundle, value) and all([many in (0, q) for many in tie_numbers(web, value)])
