"""Divided and equal parts of bundles, found and counted; the ties are taken one after another."""

from math import comb

from listpicks.errors import Refused
from listpicks.reckoning import product_of
from listpicks.tiecodes import TieCodes

MOST_CODES = 20000


def _check_codes(base, web):
    """Refuse more codes than are gone through."""
    count = product_of([base] * web[0])
    if count > MOST_CODES:
        raise Refused(count)


def divided_part(q, web, bundle):
    """None, or some divided part of a bundle."""
    _check_codes(q, web)
    return _some_part(q, bundle, TieCodes(web, q, True), list(range(web[0])))


def equal_part(q, web, bundle):
    """None, or some equal part of a bundle."""
    _check_codes(q + 1, web)
    return _some_part(q, bundle, TieCodes(web, q + 1, False), list(range(web[0])))


def _some_part(q, bundle, codes, places):
    """None, or some part of a bundle behind whose code q divides all digits."""
    # One part for each code is enough: what later ties bring is told by the code alone.
    parts = {0: (0,) * len(bundle)}
    for at, most in enumerate(bundle):
        found = {code: part for code, part in parts.items()}
        for start, part in parts.items():
            for many, code in enumerate(codes.raised_by(start, at, min(q, most)), start=1):
                if code in found and code != 0:
                    continue
                found[code] = part[:at] + (many,) + part[at + 1:]
                if codes.is_divided(q, code, places):
                    return found[code]
        parts = _kept(q, found, codes, at)
    return None


def _kept(q, found, codes, at):
    """Those entries of a dict by codes that can still become divided, if only later ties come."""
    places = codes.ended(at)
    return {code: one for code, one in found.items() if codes.is_divided(q, code, places)}


def part_count(q, web, bundle):
    """How many lots of single ties are empty or make a divided part."""
    _check_codes(q, web)
    codes = TieCodes(web, q, True)
    totals = {0: 1}
    for at, most in enumerate(bundle):
        shares = _shares(q, most)
        found = {}
        for start, total in totals.items():
            for share, code in zip(shares, [start] + codes.raised_by(start, at, len(shares) - 1)):
                found[code] = found.get(code, 0) + share * total
        totals = _kept(q, found, codes, at)
    return totals[0]


def _shares(q, most):
    """In how many ways 0, 1 and so on of so many like ties can be taken, but for multiples of q."""
    found = [0] * min(q, most + 1)
    for many in range(most + 1):
        found[many % q] += comb(most, many)
    return found
