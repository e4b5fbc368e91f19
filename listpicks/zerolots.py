"""Lots of marks that add up to nothing."""

from listpicks.kinds import is_lot


def plus_mark(moduli, total, mark):
    """What is left, by each modulus, of a total and a mark."""
    return tuple([(one + other) % modulus for one, other, modulus in zip(total, mark, moduli)])


def adds_up(moduli, marks, lot):
    """What is left, by each modulus, of the sum of the marks of a lot."""
    total = (0,) * len(moduli)
    for at in lot:
        total = plus_mark(moduli, total, marks[at])
    return total


def is_zero_lot(moduli, marks, value):
    """Whether any value is a lot that isn't empty and adds up to nothing."""
    return is_lot(len(marks), value) and value != () and not any(adds_up(moduli, marks, value))


def _counted(moduli, marks, sign):
    """How many lots add up to nothing, each counted as the sign once for each of its marks."""
    nothing = (0,) * len(moduli)
    totals = {nothing: 1}
    for mark in marks:
        found = {total: many for total, many in totals.items()}
        for total, many in totals.items():
            key = plus_mark(moduli, total, mark)
            found[key] = found.get(key, 0) + sign * many
        totals = found
    return totals[nothing]


def zero_count(moduli, marks):
    """How many lots, the empty one among them, add up to nothing."""
    return _counted(moduli, marks, 1)


def sign_count(moduli, marks):
    """How many of these lots have an even number of marks, less how many an odd one."""
    return _counted(moduli, marks, -1)


def zero_lot(moduli, marks):
    """None, or some lot that isn't empty and adds up to nothing."""
    nothing = (0,) * len(moduli)
    # One lot for each sum is enough: what a mark brings to nothing is told by the sum alone.
    lots = {nothing: ()}
    for at, mark in enumerate(marks):
        ahead = list(lots.items())
        for total, lot in ahead:
            key = plus_mark(moduli, total, mark)
            if key == nothing:
                return lot + (at,)
            if key not in lots:
                lots[key] = lot + (at,)
    return None
