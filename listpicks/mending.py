"""Tables in which some worths are wrong, mended by votes; the field is not 0."""

from listpicks.codes import code_powers, lengths_of
from listpicks.fields import element
from listpicks.gridmaps import all_worths, mapped, piece_map
from listpicks.lists import all_tuples
from listpicks.polynomials import plus
from listpicks.reckoning import product_of


def _pieces(row, power):
    size = power + 1
    return [row[at:at + size] for at in range(0, len(row) - power, size)]


def vote_boxes(lists, powers):
    """All lists made of pieces of the lists, each with one element more than its power."""
    lengths_of(lists)
    return all_tuples([_pieces(row, power) for row, power in zip(lists, powers)])


def votes(p, lists, table, powers):
    """For each of these lists what it tells as the factor of the powers."""
    lengths_of(lists)
    maps = [piece_map(p, row, _pieces(row, power)) for row, power in zip(lists, powers)]
    return tuple(mapped(p, table, maps))


def sure_mends(lengths, d):
    """How many wrong worths are surely mended."""
    counts = []
    for powers in code_powers(lengths, d):
        counts.append(product_of([length // (power + 1) for length, power in zip(lengths, powers)]))
    return (min(counts) - 1) // 2


def _most_told(told):
    """What stands most often in a tuple, the least of what stands equally often."""
    best = 0
    most = 0
    for one in sorted(set(told)):
        many = told.count(one)
        if many > most:
            best = one
            most = many
    return best


def _voted(p, lists, table, powers_of_one_degree):
    """The polynomial with the factors that most votes tell."""
    found = []
    for powers in powers_of_one_degree:
        factor = _most_told(votes(p, lists, table, powers))
        if factor != 0:
            found.append((powers, factor))
    return tuple(found)


def mended(p, lists, d, table):
    """The polynomial of degree d at most that the votes tell, degree by degree."""
    lengths = lengths_of(lists)
    every = code_powers(lengths, d)
    left = table
    total = ()
    for step in reversed(range(min(d, sum(lengths) - len(lengths)) + 1)):
        part = _voted(p, lists, left, [powers for powers in every if sum(powers) == step])
        left = [element(p, one - below) for one, below in zip(left, all_worths(p, part, lists))]
        total = plus(p, total, part)
    return total
