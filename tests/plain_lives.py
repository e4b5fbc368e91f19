"""What the tests of points [68] to [74] share: drawn lives, changes, and what plainly can be changed."""

from draws import multiplied, number_polynomial, paper_total, plain_choices, plain_worth, summed


def plain_whole(p, n, conditions):
    return multiplied(p, number_polynomial(p, n, 1), *conditions)


def plain_picks(p, conditions, lists):
    return [choice for choice in plain_choices(lists) if all(plain_worth(p, f, choice) for f in conditions)]


def drawn_conditions(draws, p, n, lists, most=3):
    """Conditions of which the product is now and then 0 at all choices."""
    found = [draws.polynomial(p, n, draws.between(1, 3), draws.between(1, 2)) for _ in range(draws.below(most + 1))]
    if draws.below(2):
        paper = tuple(draws.polynomial(p, n, 1, 1) for _ in lists)
        found.append(summed(p, paper_total(p, lists, paper), draws.polynomial(p, n, draws.below(2), 1)))
    return tuple(found)


def drawn_change(draws, life):
    """A change that can be made, or one that nearly can."""
    p, n, conditions, lists, _ = life
    kind = draws.below(5)
    at = draws.below(n)
    if kind < 2:
        return "strike", at, draws.one_of(lists[at])
    if kind == 2:
        return "add", at, draws.element(p, 12)
    if kind == 3:
        return "more", draws.polynomial(p, n, draws.between(1, 2), 1)
    return "less", draws.below(len(conditions) + 1)


def plainly_possible(life, change):
    """Whether a change that drawn_change draws can be made; sizes are far below all limits."""
    _, _, conditions, lists, _ = life
    if change[0] == "strike":
        return change[2] in lists[change[1]] and len(lists[change[1]]) > 1
    if change[0] == "add":
        return change[2] not in lists[change[1]] and len(lists[change[1]]) < 12
    return change[0] == "more" or change[1] < len(conditions)


def plainly_changed(life, change):
    """The pair (conditions, lists) behind a change."""
    _, _, conditions, lists, _ = life
    if change[0] == "more":
        return conditions + (change[1],), lists
    if change[0] == "less":
        return conditions[:change[1]] + conditions[change[1] + 1:], lists
    rows = [list(row) for row in lists]
    if change[0] == "strike":
        rows[change[1]].remove(change[2])
    else:
        rows[change[1]].append(change[2])
    return conditions, tuple(tuple(sorted(row)) for row in rows)


def dense(n, size):
    """A polynomial over 0 with just so many terms, each power below 8."""
    found = []
    for code in range(size):
        powers = []
        for _ in range(n):
            code, power = divmod(code, 8)
            powers.append(power)
        found.append((tuple(powers), 1))
    return tuple(sorted(found))


def one_term(n, at, power, factor=1):
    return ((tuple(power * (k == at) for k in range(n)), factor),)


def pairs_sum(n, sign):
    """The product, over all unknowns, of (unknown plus 1), or less 1: 2 to the power n terms."""
    found = number_polynomial(0, n, 1)
    for at in range(n):
        found = multiplied(0, found, summed(0, one_term(n, at, 1), number_polynomial(0, n, sign)))
    return found
