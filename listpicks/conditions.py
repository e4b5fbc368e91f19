"""Conditions on what is picked: what they are, where they hold, and their straight forms."""

from listpicks.fields import element
from listpicks.kinds import is_number, is_pair, is_short
from listpicks.lists import choices
from listpicks.reckoning import product_of

IS = "is"
OF = "of"
MINUS = "minus"
ADD = "add"
TIMES = "times"
UNLIKE = "unlike"
LIKE = "like"
ALL = "all"
SOME = "some"
NOT = "not"

TURNED = {"unlike": "like", "like": "unlike", "all": "some", "some": "all"}

GREATEST_FORM_DEGREE = 4
MOST_PARTS = 10
MOST_SUMS = 5


def _is_word_pair(value):
    return is_pair(value) and isinstance(value[0], str)


def _is_row(most, value):
    """Whether any value is a tuple of 2 to so many things."""
    return isinstance(value, tuple) and 2 <= len(value) <= most


def _part_degrees(n, value):
    """None if any value is no tuple of 2 to 10 sums, otherwise the list of their form degrees."""
    if not _is_row(MOST_PARTS, value):
        return None
    found = []
    for part in value:
        # Nothing is looked at behind the first thing that is no sum: it may stand there very often.
        many = _form_degree(n, part)
        if many is None:
            return None
        found.append(many)
    return found


def _form_degree(n, value):
    """None if any value is no sum for n lists, otherwise its form degree, at most 4."""
    if not _is_word_pair(value):
        return None
    word, inner = value
    if word == IS:
        return 0 if is_number(inner) and is_short(inner) else None
    if word == OF:
        return 1 if is_number(inner) and inner < n else None
    if word == MINUS:
        return _form_degree(n, inner)
    if word not in (ADD, TIMES):
        return None
    degrees = _part_degrees(n, inner)
    if degrees is None or (word == TIMES and sum(degrees) > GREATEST_FORM_DEGREE):
        return None
    return sum(degrees) if word == TIMES else max(degrees)


def _are_sums(n, value):
    if not _is_row(MOST_SUMS, value):
        return False
    for one in value:
        if _form_degree(n, one) is None:
            return False
    return True


def _are_conditions(n, value):
    if not _is_row(MOST_PARTS, value):
        return False
    for one in value:
        if not is_condition(n, one):
            return False
    return True


def is_condition(n, value):
    """Whether any value is a condition for n lists."""
    if not _is_word_pair(value):
        return False
    word, inner = value
    if word == NOT:
        return is_condition(n, inner)
    if word in (UNLIKE, LIKE):
        return _are_sums(n, inner)
    return word in (ALL, SOME) and _are_conditions(n, inner)


def _worths(p, one, rows):
    """What a sum comes to at each of some choices."""
    word, inner = one
    if word == IS:
        return [element(p, inner)] * len(rows)
    if word == OF:
        return [choice[inner] for choice in rows]
    if word == MINUS:
        return [element(p, -number) for number in _worths(p, inner, rows)]
    columns = [_worths(p, part, rows) for part in inner]
    if word == ADD:
        return [element(p, sum(numbers)) for numbers in zip(*columns)]
    return [element(p, product_of(numbers)) for numbers in zip(*columns)]


def _marks(p, condition, rows):
    """Whether a condition holds, for each of some choices."""
    word, inner = condition
    if word == NOT:
        return [not mark for mark in _marks(p, inner, rows)]
    if word in (UNLIKE, LIKE):
        columns = [_worths(p, one, rows) for one in inner]
        many = len(columns) if word == UNLIKE else 1
        return [len(set(numbers)) == many for numbers in zip(*columns)]
    columns = [_marks(p, part, rows) for part in inner]
    if word == ALL:
        return [all(marks) for marks in zip(*columns)]
    return [any(marks) for marks in zip(*columns)]


def holds(p, condition, choice):
    """Whether a condition holds at a choice."""
    return _marks(p, condition, [choice])[0]


def held(p, lists, condition):
    """All choices at which a condition holds."""
    rows = choices(lists)
    return tuple([choice for choice, mark in zip(rows, _marks(p, condition, rows)) if mark])


def straight(condition):
    """The condition without not, all of whose unlike and like compare two sums."""
    return _straightened(condition, False)


def _straightened(condition, is_turned):
    word, inner = condition
    if word == NOT:
        return _straightened(inner, not is_turned)
    told = TURNED[word] if is_turned else word
    if word in (ALL, SOME):
        return told, tuple([_straightened(part, is_turned) for part in inner])
    found = tuple([(told, pair) for pair in _compared(word, inner)])
    if len(found) == 1:
        return found[0]
    return SOME if is_turned else ALL, found


def _compared(word, sums):
    """The pairs of sums that unlike or like compares: each with each later one, or each with the next one."""
    if word == LIKE:
        return [(one, other) for one, other in zip(sums, sums[1:])]
    return [(one, other) for at, one in enumerate(sums) for other in sums[at + 1:]]
