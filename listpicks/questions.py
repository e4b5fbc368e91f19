"""Tokens of texts, and questions: what texts can be read as, and the fewest tokens that are read so."""

from listpicks.conditions import ADD, ALL, IS, MINUS, NOT, OF, SOME, TIMES, is_condition
from listpicks.fields import is_field
from listpicks.kinds import is_short
from listpicks.lists import are_lists

DIGITS = "0123456789"
RUN_SIGNS = "abcdefghijklmnopqrstuvwxyzABCDEFGHIJKLMNOPQRSTUVWXYZ0123456789_"
RESERVED = ("field", "list", "pick", "or", "and", "not", "like", "unlike")
DEEPEST = 6


def tokens_of(text):
    """The tokens of a text, in order."""
    found = []
    start = 0
    for at, sign in enumerate(text):
        if sign not in RUN_SIGNS:
            found.extend([text[start:at], "" if sign in " \n" else sign])
            start = at + 1
    found.append(text[start:])
    return tuple([token for token in found if token != ""])


def is_name(value):
    """Whether any value is a string that is a name."""
    if not isinstance(value, str) or value == "" or value in RESERVED:
        return False
    return value[0] not in DIGITS and all([sign in RUN_SIGNS for sign in value])


def _are_names(value):
    """Whether any value is a tuple of unlike names."""
    if not isinstance(value, tuple) or not all([is_name(name) for name in value]):
        return False
    return len(set(value)) == len(value)


def is_question(value):
    """Whether any value is a question."""
    if not isinstance(value, tuple) or len(value) != 4:
        return False
    p, names, lists, condition = value
    if not is_field(p) or not _are_names(names) or not are_lists(p, lists) or len(names) != len(lists):
        return False
    if not all([is_short(one) for row in lists for one in row]) or not is_condition(len(lists), condition):
        return False
    _, deep = _condition_told(names, condition)
    return deep <= DEEPEST


def question_tokens(question):
    """The fewest tokens that are read as a question, lists ascending."""
    p, names, lists, condition = question
    found = ["field", str(p), ";"]
    for name, row in zip(names, lists):
        written, _ = _joined([(_element_tokens(one), 0) for one in row], ",")
        found.extend(["list", name, ":"] + written + [";"])
    written, _ = _condition_told(names, condition)
    return tuple(found + ["pick"] + written + [";"])


def question_text(question):
    """Some text with just these tokens."""
    found = []
    for token in question_tokens(question):
        # Two runs side by side would be one.
        if found != [] and found[-1][-1] in RUN_SIGNS and token[0] in RUN_SIGNS:
            found.append(" ")
        found.append(token)
    return "".join(found)


def _element_tokens(one):
    return [str(one)] if one >= 0 else ["-", str(-one)]


# What follows tells pairs: the fewest tokens for a condition or a sum, and how deep not, [ and ( stand in them.


def _joined(pairs, sign):
    """Pairs one after another, with a sign between each two."""
    found = []
    for tokens, _ in pairs:
        if found != []:
            found.append(sign)
        found.extend(tokens)
    return found, max([deep for _, deep in pairs])


def _enclosed(pair, left, right):
    tokens, deep = pair
    return [left] + tokens + [right], deep + 1


def _condition_told(names, condition):
    word, inner = condition
    if word == SOME:
        return _joined([_clause_told(names, part) for part in inner], "or")
    return _clause_told(names, condition)


def _clause_told(names, condition):
    word, inner = condition
    if word == ALL:
        return _joined([_step_told(names, part) for part in inner], "and")
    return _step_told(names, condition)


def _step_told(names, condition):
    word, inner = condition
    if word == NOT:
        tokens, deep = _step_told(names, inner)
        return ["not"] + tokens, deep + 1
    if word in (ALL, SOME):
        return _enclosed(_condition_told(names, condition), "[", "]")
    return _joined([_sum_told(names, one) for one in inner], word)


def _sum_told(names, one):
    word, inner = one
    found = []
    depths = []
    for part in inner if word == ADD else (one,):
        if part[0] == MINUS:
            found.append("-")
            tokens, deep = _product_told(names, part[1])
        else:
            if found != []:
                found.append("+")
            tokens, deep = _product_told(names, part)
        found.extend(tokens)
        depths.append(deep)
    return found, max(depths)


def _product_told(names, one):
    word, inner = one
    if word == TIMES:
        return _joined([_factor_told(names, part) for part in inner], "*")
    return _factor_told(names, one)


def _factor_told(names, one):
    word, inner = one
    if word == IS:
        return [str(inner)], 0
    if word == OF:
        return [names[inner]], 0
    return _enclosed(_sum_told(names, one), "(", ")")
