"""Answers to offers that have as many places as can be: fewer are never better for the house."""


def _full_lots(linked, places):
    """All lots of places without a tie between two to which no other one can be added, and perhaps some more."""
    if places == []:
        return [[]]
    first, others = places[0], places[1:]
    apart = [place for place in others if place not in linked[first]]
    found = [[first] + lot for lot in _full_lots(linked, apart)]
    if len(apart) < len(others):
        found.extend(_full_lots(linked, others))
    return found


def full_answers(linked, stand, offer):
    """All answers to an offer to which no place can be added, and perhaps some more."""
    last = [place for place in offer if stand[place] == 1]
    barred = {other: True for place in last for other in linked[place]}
    if any([place in barred for place in last]):
        return []
    free = [place for place in offer if stand[place] > 1 and place not in barred]
    return [tuple(sorted(last + lot)) for lot in _full_lots(linked, free)]
