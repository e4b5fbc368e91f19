"""Round lots of the ties of a way: at each place as many of them are put out as in."""

from listpicks.webways import outs, ways_with


def round_lots(web, way):
    """All round lots of a way."""
    # A round lot turned about is another way with the same outs, and each other one comes so.
    found = []
    for other in ways_with(web, outs(web, way)):
        found.append(tuple([at for at, turn in enumerate(way) if turn != other[at]]))
    return tuple(sorted(found))


def round_counts(web, way):
    """How many round lots have an even number of ties, and how many an odd one."""
    sizes = [len(lot) for lot in round_lots(web, way)]
    odd = len([size for size in sizes if size % 2 == 1])
    return len(sizes) - odd, odd
