"""What the tests of points [42] to [46] share: moduli, drawn marks, and lots one by one."""

from itertools import combinations

POWERS = ((2,), (3,), (4,), (5,), (9,), (2, 2), (2, 4), (4, 2), (3, 3), (2, 2, 2), (2, 2, 4), (2, 2, 2, 2))
OTHERS = ((6,), (2, 3), (6, 2), (4, 6), (3, 9, 2), (10,), (2, 2, 3))


def drawn_marks(draws, moduli, many):
    return tuple(tuple(draws.below(modulus) for modulus in moduli) for _ in range(many))


def plain_lots(many):
    """All ascending tuples of numbers below many, the empty one first."""
    return [lot for size in range(many + 1) for lot in combinations(range(many), size)]


def plain_rest(moduli, marks, lot):
    return tuple(sum(marks[at][k] for at in lot) % modulus for k, modulus in enumerate(moduli))


def plain_zero_lots(moduli, marks):
    """All lots that add up to nothing, the empty one among them."""
    return [lot for lot in plain_lots(len(marks)) if not any(plain_rest(moduli, marks, lot))]
