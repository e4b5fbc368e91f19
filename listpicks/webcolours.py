"""Lengths with which a web can be coloured from any lists, and papers that say so."""

from listpicks.rounds import round_counts
from listpicks.webcores import linked_places, spread
from listpicks.webterms import some_powers
from listpicks.webways import LOT, is_way, outs, way_within


def length_paper(web, lengths):
    """None, or some way with outs less than the lengths and unlike round counts."""
    powers = some_powers(web, lengths)
    if powers is None:
        return None
    # The powers add up to the number of ties, so a way with outs nowhere more has just these.
    return way_within(web, powers)[1]


def is_length_paper(web, lengths, value):
    """Whether any value is such a way."""
    if not is_way(web, value) or any([many >= length for many, length in zip(outs(web, value), lengths)]):
        return False
    even, odd = round_counts(web, value)
    return even != odd


def even_length(web):
    """The least number that, as the length of all lists, has such a paper."""
    length = 1
    while some_powers(web, (length,) * web[0]) is None:
        length = length + 1
    return length


def two_sides(web):
    """None, or some tuple with 0 or 1 for each place, unlike at both places of each tie."""
    linked = linked_places(web)
    sides = {}
    for start in range(len(linked)):
        if start not in sides:
            found, _ = spread(linked, start)
            sides.update(found)
    if any([sides[u] == sides[v] for u, v in web[1]]):
        return None
    return tuple([sides[place] for place in range(len(linked))])


def thickest(web):
    """The greatest number of ties between the places of a lot over the number of its places, rounded up."""
    # There is a way with outs up to a number exactly if no lot has more ties than so many for each place.
    most = 0
    while way_within(web, (most,) * web[0])[0] == LOT:
        most = most + 1
    return most
