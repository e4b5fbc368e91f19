"""Ways: each tie of a web put out of one of its two places."""

from listpicks.kinds import is_lot, is_number, is_pair
from listpicks.webcores import linked_places

WAY = "way"
LOT = "lot"


def is_way(web, value):
    """Whether any value is a tuple with 0 or 1 for each tie."""
    if not isinstance(value, tuple) or len(value) != len(web[1]):
        return False
    return all([is_number(turn) and turn <= 1 for turn in value])


def outs(web, way):
    """For each place how many ties are put out of it."""
    n, ties = web
    counts = [0] * n
    for tie, turn in zip(ties, way):
        counts[tie[turn]] += 1
    return tuple(counts)


def _one_less(numbers, at):
    return numbers[:at] + (numbers[at] - 1,) + numbers[at + 1:]


def ways_with(web, numbers):
    """All ways with these outs."""
    behind = [len(others) for others in linked_places(web)]
    if any([number > most for number, most in zip(numbers, behind)]):
        return ()
    found = [((), tuple(numbers))]
    for u, v in web[1]:
        behind[u] = behind[u] - 1
        behind[v] = behind[v] - 1
        steps = [(way + (turn,), _one_less(left, tie_end)) for way, left in found for turn, tie_end in ((0, u), (1, v))]
        # What is left to be put out of a place must be among its ties that come yet.
        found = [(way, left) for way, left in steps if 0 <= left[u] <= behind[u] and 0 <= left[v] <= behind[v]]
    return tuple([way for way, _ in found])


def _is_most(numbers, most):
    return all([number <= bound for number, bound in zip(numbers, most)])


def way_within(web, most):
    """The pair ("way", way) with outs nowhere more, or ("lot", lot) of places with too many ties between them."""
    way = [0] * len(web[1])
    counts = outs(web, way)
    while not _is_most(counts, most):
        start = [place for place, count in enumerate(counts) if count > most[place]][0]
        paths = _paths_out(web, way, start)
        ends = [place for place in sorted(paths) if counts[place] < most[place]]
        if ends == []:
            return LOT, tuple(sorted(paths))
        for at in paths[ends[0]]:
            way[at] = 1 - way[at]
        counts = outs(web, way)
    return WAY, tuple(way)


def _paths_out(web, way, start):
    """For each place to which ties, put as in a way, lead from a place, the indexes of such ties."""
    paths = {start: ()}
    waiting = [start]
    while waiting != []:
        place = waiting.pop()
        for at, tie in enumerate(web[1]):
            other = tie[1 - way[at]]
            if tie[way[at]] == place and other not in paths:
                paths[other] = paths[place] + (at,)
                waiting.append(other)
    return paths


def is_within(web, most, value):
    """Whether any value is such a pair."""
    if not is_pair(value) or not isinstance(value[0], str):
        return False
    word, evidence = value
    if word == WAY:
        return is_way(web, evidence) and _is_most(outs(web, evidence), most)
    return word == LOT and is_lot(web[0], evidence) and _is_too_thick(web, most, evidence)


def _is_too_thick(web, most, lot):
    between = [tie for tie in web[1] if tie[0] in lot and tie[1] in lot]
    return len(between) > sum([most[place] for place in lot])
