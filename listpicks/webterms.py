"""Terms of the polynomials of webs, over the field 0."""

from listpicks.reckoning import reduced
from listpicks.webcores import core_of, linked_places, rest_ties


def _raise_at(found, powers, caps, at, factor):
    """Add a factor to those found for the powers with one more at a place, if this is not above its cap."""
    power = powers[at] + 1
    if power <= caps[at]:
        key = powers[:at] + (power,) + powers[at + 1:]
        found[key] = found.get(key, 0) + factor


def capped_terms(ties, caps):
    """The factors, by powers, of the product of (unknown u less unknown v) over ties, without powers above the caps."""
    terms = {(0,) * len(caps): 1}
    for u, v in ties:
        found = {}
        for powers, factor in terms.items():
            _raise_at(found, powers, caps, u, factor)
            _raise_at(found, powers, caps, v, -factor)
        terms = reduced(0, found)
    return terms


def some_powers(web, numbers):
    """None, or the powers of some term of the web's polynomial, each less than its number, 0 at places done."""
    core, counts = core_of(linked_places(web), numbers)
    terms = capped_terms(rest_ties(web, core), [max(0, number - 1) for number in core])
    if terms == {}:
        return None
    # With the power of all its ties a place left out adds nothing to the factor of the core but a sign.
    return tuple([power + count for power, count in zip(min(terms), counts)])
