"""What the tests of points [47] to [54] share: webs, and what is plainly found in them."""

from itertools import combinations, product

from draws import multiplied, number_polynomial, told

RING = (4, ((0, 1), (0, 3), (1, 2), (2, 3)))
THREE = (3, ((0, 1), (0, 2), (1, 2)))
PATH = (3, ((0, 1), (1, 2)))
ONE = (1, ())
BARE = (3, ())
# Two and three places with all ties between the two lots.
TWO_THREE = (5, ((0, 2), (0, 3), (0, 4), (1, 2), (1, 3), (1, 4)))
# The web of [56]: lists of two are enough, but the game isn't won with 2 everywhere.
SEVEN = (7, ((0, 2), (0, 3), (0, 4), (1, 2), (1, 3), (1, 6), (4, 5), (5, 6)))
# Ten places and sixteen ties, as many as there may be of both.
LARGEST = (10, ((0, 1), (0, 2), (0, 7), (1, 6), (1, 7), (2, 3), (2, 6), (2, 9), (3, 4), (3, 8), (4, 6), (4, 9), (5, 7),
                (5, 8), (6, 8), (8, 9)))
SIDES = (8, tuple((u, v) for u in range(4) for v in range(4, 8)))


def all_ties(n):
    return tuple(combinations(range(n), 2))


def complete(n):
    return n, all_ties(n)


def ring(n):
    return n, tuple(sorted(tuple(sorted((at, (at + 1) % n))) for at in range(n)))


def small_webs(n):
    """All webs of n places."""
    ties = all_ties(n)
    return [(n, tuple(tie for tie, kept in zip(ties, told_by) if kept)) for told_by in product((0, 1), repeat=len(ties))]


def drawn_web(draws, most_places=5, most_ties=8):
    n = draws.between(1, most_places)
    ties = list(all_ties(n))
    while len(ties) > most_ties or (ties and draws.below(4)):
        ties.pop(draws.below(len(ties)))
    return n, tuple(ties)


def plain_ways(web):
    return list(product((0, 1), repeat=len(web[1])))


def plain_outs(web, way):
    counts = [0] * web[0]
    for (u, v), turn in zip(web[1], way):
        counts[v if turn else u] += 1
    return tuple(counts)


def plain_polynomial(p, n, ties):
    found = number_polynomial(p, n, 1)
    for u, v in ties:
        factor = {tuple(int(k == u) for k in range(n)): 1, tuple(int(k == v) for k in range(n)): -1}
        found = multiplied(p, found, told(p, factor))
    return found


def plain_colourings(web, lists):
    return [choice for choice in product(*lists) if all(choice[u] != choice[v] for u, v in web[1])]


def plain_papers(web, numbers):
    """All game papers at a stand with these numbers."""
    rest = [tie for tie in web[1] if numbers[tie[0]] and numbers[tie[1]]]
    return [powers for powers, _ in plain_polynomial(0, web[0], rest)
            if all(power < max(1, number) for power, number in zip(powers, numbers))]
