"""What webs are made of, and the core of a web: what is left if places are left out that can wait.

Each place that is not done has a number: how long its list is, how many offers
it still has, or what a power must be less than. If this is greater than the
number of its ties to places not done, the place can wait for these, whatever
happens there. So it may be left out, and others then perhaps, too.
"""


def linked_places(web):
    """For each place the list of the places to which ties lead from it."""
    n, ties = web
    found = [[] for _ in range(n)]
    for u, v in ties:
        found[u].append(v)
        found[v].append(u)
    return found


def spread(linked, start):
    """The pair (sides, steps) of all places to which ties lead from one place.

    The steps are ties, one by which each other place was reached; the sides
    are 0 or 1 for each place, unlike at both places of each step.
    """
    sides = {start: 0}
    steps = []
    waiting = [start]
    while waiting != []:
        place = waiting.pop()
        for other in linked[place]:
            if other not in sides:
                sides[other] = 1 - sides[place]
                steps.append((min(place, other), max(place, other)))
                waiting.append(other)
    return sides, steps


def rest_ties(web, numbers):
    """The ties between places that are not done: their numbers are above 0."""
    return [(u, v) for u, v in web[1] if numbers[u] > 0 and numbers[v] > 0]


def core_of(linked, numbers):
    """The pair (numbers, ties): 0 for a place that can wait, and how many ties it had left when it was left out."""
    left = list(numbers)
    counts = [0] * len(left)
    place = _one_waiting(linked, left)
    while place is not None:
        counts[place] = _ties_left(linked, left, place)
        left[place] = 0
        place = _one_waiting(linked, left)
    return tuple(left), tuple(counts)


def _ties_left(linked, left, place):
    return len([other for other in linked[place] if left[other] > 0])


def _one_waiting(linked, left):
    """None, or some place that can wait."""
    for place, number in enumerate(left):
        if number > _ties_left(linked, left, place):
            return place
    return None
