"""What the tests of points [26] to [29] share: lists, and all code tables of small ones."""

from draws import FIELDS, all_below, plain_table, told

PRIMES = FIELDS[1:]
# 256 choices are allowed, these are not.
LARGE = ((12, 11, 2), 264)
LARGE_LISTS = (tuple(range(12)), tuple(range(11)), (0, 1))
LARGEST_LISTS = ((0, 1, 5, 7),) * 4


def code(p, lists, d):
    """All tables of polynomials of degree at most d, as a set."""
    lengths = tuple(len(row) for row in lists)
    powers = [one for one in all_below(lengths) if sum(one) <= d]
    return {plain_table(p, told(p, dict(zip(powers, factors))), lists) for factors in all_below((p,) * len(powers))}


SMALL = ((2, ((0, 1), (0, 1))), (2, ((0, 1), (1,), (0, 1))), (3, ((0, 2), (1, 2))), (3, ((0, 1, 2),)), (5, ((1, 2, 4),)),
         (3, ((0, 1, 2), (1,))), (2, ((1,),)), (7, ((2, 5),)))
