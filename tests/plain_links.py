"""What the tests of points [65] to [67] share: drawn factors, orders, and who links whom."""

from itertools import combinations, permutations

from draws import told


def less(p, n, u, v):
    """The polynomial (unknown u less unknown v)."""
    powers = [tuple(int(k == at) for k in range(n)) for at in (u, v)]
    return told(p, {powers[0]: 1, powers[1]: -1})


def tie_factors(p, n, ties):
    return tuple(less(p, n, u, v) for u, v in ties)


def drawn_factor(draws, p, n, most=2, many=4):
    """A polynomial that touches some of the unknowns."""
    kept = [draws.below(2) for _ in range(n)]
    totals = {}
    for _ in range(draws.below(many + 1)):
        totals[tuple(one * draws.between(0, most) for one in kept)] = draws.element(p)
    return told(p, totals)


def drawn_factors(draws, p, n, many=4, most=2):
    return tuple(drawn_factor(draws, p, n, most) for _ in range(draws.below(many + 1)))


def drawn_order(draws, n):
    left = list(range(n))
    return tuple(left.pop(draws.below(len(left))) for _ in range(n))


def plain_touched(polynomial, n):
    return tuple(at for at in range(n) if any(powers[at] for powers, _ in polynomial))


def plain_links(n, factors):
    pairs = set()
    for factor in factors:
        pairs.update(combinations(plain_touched(factor, n), 2))
    return pairs


def plain_reach(n, factors, order):
    """For each unknown those behind it at the end of a path over unknowns ahead of it."""
    pairs = plain_links(n, factors)
    found = []
    for place, start in enumerate(order):
        seen, waiting = {start}, [start]
        while waiting:
            at = waiting.pop()
            for other in range(n):
                if other not in seen and (min(at, other), max(at, other)) in pairs:
                    seen.add(other)
                    if other in order[:place]:
                        waiting.append(other)
        found.append(tuple(sorted(seen & set(order[place + 1:]))))
    return tuple(found)


def plain_width(n, factors, order):
    return max(len(one) for one in plain_reach(n, factors, order))


def plain_least_width(n, factors):
    return min(plain_width(n, factors, order) for order in permutations(range(n)))
