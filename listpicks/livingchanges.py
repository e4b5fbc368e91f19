"""Changes of lives, and the evidence that outlives them."""

from listpicks.deciding import PAPER, PICK, decided
from listpicks.errors import InvalidQuestion
from listpicks.kinds import is_element, is_number
from listpicks.lists import LONGEST_LIST, list_product
from listpicks.living import told_condition, whole_condition
from listpicks.polynomials import times, worth

STRIKE = "strike"
ADD = "add"
MORE = "more"
LESS = "less"


def is_change(life, value):
    """Whether any value is a change that can be made."""
    if not isinstance(value, tuple) or len(value) not in (2, 3) or not isinstance(value[0], str):
        return False
    if len(value) == 3:
        return _is_list_change(life, value)
    return _is_condition_change(life, value)


def _is_list_change(life, value):
    p, n, _, lists, _ = life
    word, at, one = value
    if not is_number(at) or at >= n or not is_element(p, one):
        return False
    row = lists[at]
    if word == STRIKE:
        return one in row and len(row) > 1
    return word == ADD and one not in row and len(row) < LONGEST_LIST


def _is_condition_change(life, value):
    p, n, conditions, _, _ = life
    word, told = value
    if word == MORE:
        return told_condition(p, n, conditions + (told,)) is not None
    if word != LESS or not is_number(told) or told >= len(conditions):
        return False
    return told_condition(p, n, _without(conditions, told)) is not None


def _without(things, at):
    return things[:at] + things[at + 1:]


def carried(life, change):
    """None, or the evidence of a life that outlives a change that can be made."""
    word, evidence = life[4]
    if word == PICK:
        return life[4] if _outlives(life[0], evidence, change) else None
    if change[0] in (ADD, LESS):
        return None
    return PAPER, _carried_paper(life, change, evidence)


def _outlives(p, choice, change):
    """Whether a pick is one behind a change."""
    if change[0] == STRIKE:
        return choice[change[1]] != change[2]
    if change[0] == MORE:
        return worth(p, change[1], choice) != 0
    return True


def _carried_paper(life, change, paper):
    """The paper behind strike or more."""
    p, n = life[0], life[1]
    if change[0] == MORE:
        return tuple([times(p, entry, change[1]) for entry in paper])
    _, at, one = change
    entry = times(p, paper[at], list_product(p, n, at, (one,)))
    return paper[:at] + (entry,) + paper[at + 1:]


def changed(life, change):
    """Some life behind a change, with the evidence that is carried, if any."""
    found, _ = led_on(life, change)
    return found


def led_on(life, change):
    """The pair of a life behind a change and of whether its evidence was carried."""
    if not is_change(life, change):
        raise InvalidQuestion(1)
    p, n, conditions, lists, _ = life
    if change[0] == MORE:
        conditions = conditions + (change[1],)
    elif change[0] == LESS:
        conditions = _without(conditions, change[1])
    else:
        lists = _lists_behind(lists, change)
    evidence = carried(life, change)
    is_kept = evidence is not None
    if not is_kept:
        evidence = decided(p, whole_condition(p, n, conditions), lists)
    return (p, n, conditions, lists, evidence), is_kept


def _lists_behind(lists, change):
    word, at, one = change
    if word == STRIKE:
        row = tuple([other for other in lists[at] if other != one])
    else:
        row = tuple(sorted(lists[at] + (one,)))
    return lists[:at] + (row,) + lists[at + 1:]
