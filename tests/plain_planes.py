"""What the tests of points [30] to [33] share: drawn planes, and what they plainly hold."""

from draws import plain_choices


def drawn_plane(draws, p, n):
    factors = tuple(draws.element(p) for _ in range(n))
    while not any(factors):
        factors = tuple(draws.element(p) for _ in range(n))
    return factors, draws.element(p)


def plainly_holds(p, plane, point):
    total = sum(factor * one for factor, one in zip(plane[0], point)) - plane[1]
    return (total % p if p else total) == 0


def plainly_left(p, lists, planes):
    return tuple(choice for choice in plain_choices(lists)
                 if not any(plainly_holds(p, plane, choice) for plane in planes))
