"""What the tests of points [61] to [64] share: drawn sums and conditions, and what they plainly come to."""

from draws import multiplied, number_polynomial, summed, told, negative

A, B, C = ("of", 0), ("of", 1), ("of", 2)
ONE_IS = ("is", 1)


def plain_sum(p, one, choice):
    word, inner = one
    if word == "is":
        found = inner
    elif word == "of":
        found = choice[inner]
    elif word == "minus":
        found = -plain_sum(p, inner, choice)
    else:
        found = 0 if word == "add" else 1
        for part in inner:
            worth = plain_sum(p, part, choice)
            found = found + worth if word == "add" else found * worth
    return found % p if p else found


def plainly(p, condition, choice):
    """Whether a condition holds, as the table of [61] tells it."""
    word, inner = condition
    if word == "not":
        return not plainly(p, inner, choice)
    if word == "all":
        return all([plainly(p, part, choice) for part in inner])
    if word == "some":
        return any([plainly(p, part, choice) for part in inner])
    worths = [plain_sum(p, one, choice) for one in inner]
    if word == "like":
        return all(worth == worths[0] for worth in worths)
    return all(worths[k] != worths[j] for k in range(len(worths)) for j in range(k))


def plain_form_degree(one):
    word, inner = one
    if word in ("is", "of"):
        return int(word == "of")
    if word == "minus":
        return plain_form_degree(inner)
    degrees = [plain_form_degree(part) for part in inner]
    return max(degrees) if word == "add" else sum(degrees)


def form_polynomial(p, n, one):
    word, inner = one
    if word == "is":
        return number_polynomial(p, n, inner)
    if word == "of":
        return told(p, {tuple(int(k == inner) for k in range(n)): 1})
    if word == "minus":
        return negative(p, form_polynomial(p, n, inner))
    parts = [form_polynomial(p, n, part) for part in inner]
    return summed(p, *parts) if word == "add" else multiplied(p, *parts)


def drawn_sum(draws, n, deep, left=4):
    """A sum of a form degree up to what is left."""
    kind = draws.below(8)
    if deep == 0 or kind < 3:
        if left and (kind or draws.below(2)):
            return "of", draws.below(n)
        return "is", draws.below(4) if draws.below(9) else draws.below(10 ** 6)
    if kind == 3:
        return "minus", drawn_sum(draws, n, deep - 1, left)
    many = draws.one_of((2, 2, 2, 3, 4))
    if kind < 6:
        return "add", tuple(drawn_sum(draws, n, deep - 1, left) for _ in range(many))
    found = []
    for _ in range(many):
        found.append(drawn_sum(draws, n, deep - 1, left))
        left = left - plain_form_degree(found[-1])
    return "times", tuple(found)


def drawn_condition(draws, n, deep, size=2):
    kind = draws.below(6)
    if deep == 0 or kind < 2:
        many = draws.one_of((2, 2, 2, 3, 4, 5))
        return draws.one_of(("like", "unlike")), tuple(drawn_sum(draws, n, draws.below(size + 1)) for _ in range(many))
    if kind == 2:
        return "not", drawn_condition(draws, n, deep - 1, size)
    parts = tuple(drawn_condition(draws, n, deep - 1, size) for _ in range(draws.one_of((2, 2, 3))))
    return draws.one_of(("all", "some")), parts
