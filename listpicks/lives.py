"""Lives led through many changes."""

from listpicks.errors import InvalidQuestion
from listpicks.kinds import is_sequence
from listpicks.livingchanges import changed, led_on


def lived(life, changes):
    """Some life behind all of a sequence of changes, one after another."""
    if not is_sequence(changes):
        raise InvalidQuestion(0)
    left = life
    for at, change in enumerate(changes):
        try:
            left = changed(left, change)
        except InvalidQuestion:
            raise InvalidQuestion(at) from None
    return left


def diary(life, changes):
    """For each change the pair of which evidence is behind it and of whether it was carried."""
    found = []
    left = life
    for change in changes:
        left, is_kept = led_on(left, change)
        found.append((left[4][0], is_kept))
    return tuple(found)
