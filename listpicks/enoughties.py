"""How many ties always have a divided part, and bundles that have none."""

from listpicks.enoughmarks import is_power
from listpicks.errors import Refused
from listpicks.reckoning import least_divisor, product_of
from listpicks.webcores import linked_places, spread


def _web_trees(web):
    """For each piece of a web the pair (sides, steps) of its places, in order."""
    linked = linked_places(web)
    found = []
    seen = {}
    for start in range(len(linked)):
        if start not in seen:
            sides, steps = spread(linked, start)
            seen.update(sides)
            found.append((sides, steps))
    return found


def _odd_ties(web, sides):
    """The ties of a piece between two places of one side; if there are none, it has two sides."""
    return [(u, v) for u, v in web[1] if u in sides and sides[u] == sides[v]]


def web_pieces(web):
    """All pieces of a web."""
    return tuple([tuple(sorted(sides)) for sides, _ in _web_trees(web)])


def _pieces_told(web):
    """For each piece the pair of it and of whether it is odd."""
    return [(tuple(sorted(sides)), _odd_ties(web, sides) != []) for sides, _ in _web_trees(web)]


def _odd_modulus(q):
    """What must divide how often an odd ring's own tie is there, if all other ties of the piece are in a tree."""
    return q if q % 2 == 1 else q // 2


def tie_moduli(q, web):
    """The moduli by which ties are told: those of each piece in order."""
    found = []
    for places, is_odd in _pieces_told(web):
        found.extend([q] * (len(places) - 1))
        # By the modulus 1 nothing is told.
        if is_odd and _odd_modulus(q) > 1:
            found.append(_odd_modulus(q))
    return tuple(found)


def _mark(q, pieces, tie):
    found = []
    for places, is_odd in pieces:
        found.extend([int(place in tie) for place in places[1:]])
        if is_odd and _odd_modulus(q) > 1:
            found.append(int(places[0] in tie if q % 2 == 1 else tie[0] in places))
    return tuple(found)


def tie_marks(q, web):
    """For each tie its mark by these moduli."""
    pieces = _pieces_told(web)
    return tuple([_mark(q, pieces, tie) for tie in web[1]])


def enough_ties(q, web):
    """The least size from which on all bundles have a divided part; q must be a power of a prime."""
    if not is_power(q, least_divisor(q)):
        raise Refused(q)
    moduli = tie_moduli(q, web)
    return sum(moduli) - len(moduli) + 1


def lacking_bundle(q, web):
    """Some bundle of one tie fewer without a divided part."""
    numbers = {}
    for sides, steps in _web_trees(web):
        for tie in steps:
            numbers[tie] = q - 1
        for tie in _odd_ties(web, sides)[:1]:
            numbers[tie] = _odd_modulus(q) - 1
    return tuple([numbers.get(tie, 0) for tie in web[1]])


def fewest_parts(q, web, many):
    """How many lots of so many single ties are empty or divided at least."""
    return product_of([2] * (many - enough_ties(q, web) + 1))
