"""What choices of unlike elements add up to, and how few sums there can be."""

from listpicks.fields import element
from listpicks.lists import check_count
from listpicks.sums import at_most_the_field


def _unlike_choices(lists):
    check_count(lists)
    found = [()]
    for row in lists:
        found = [ahead + (one,) for ahead in found for one in row if one not in ahead]
    return found


def unlike_sums(p, lists):
    """All sums of choices whose elements are all unlike."""
    totals = [element(p, sum(choice)) for choice in _unlike_choices(lists)]
    return tuple(sorted(set(totals)))


def unlike_choice(p, lists, total):
    """None, or some choice with a sum whose elements are all unlike."""
    for choice in _unlike_choices(lists):
        if element(p, sum(choice)) == total:
            return choice
    return None


def unlike_lengths(lengths):
    """The lengths made less, from the longest one on, until they are unlike or 0."""
    found = list(lengths)
    most = max(lengths)
    for length, at in sorted([(length, at) for at, length in enumerate(lengths)], reverse=True):
        found[at] = max(0, min(length, most))
        most = found[at] - 1
    return tuple(found)


def fewest_unlike(p, lengths):
    """How many sums of unlike elements lists of these lengths have at least."""
    shape = unlike_lengths(lengths)
    if 0 in shape:
        return 0
    n = len(shape)
    return at_most_the_field(p, sum(shape) - n * (n + 1) // 2 + 1)
