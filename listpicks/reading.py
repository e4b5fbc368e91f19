"""Questions read from texts, token by token: a token is taken only if some text that is read goes on with it."""

from listpicks.conditions import (ADD, ALL, GREATEST_FORM_DEGREE, IS, LIKE, MINUS, MOST_PARTS, MOST_SUMS, NOT, OF, SOME,
                                  TIMES, UNLIKE)
from listpicks.errors import InvalidText
from listpicks.fields import is_field
from listpicks.kinds import is_element
from listpicks.lists import LONGEST_LIST, MOST_LISTS
from listpicks.questions import DEEPEST, DIGITS, is_name, tokens_of

MOST_DIGITS = 30


class TokenRow:
    """The tokens of a text and how many of them were taken; in the place of a token behind the last one stands none."""

    def __init__(self, tokens):
        self.tokens = tokens
        self.at = 0

    def ahead(self):
        """The next token, the empty string if there is none."""
        if self.at < len(self.tokens):
            return self.tokens[self.at]
        return ""

    def skip(self):
        """Take the next token, whichever it is."""
        self.at = self.at + 1

    def takes(self, token):
        """Whether a token is the next one; then it is taken."""
        if self.ahead() != token:
            return False
        self.skip()
        return True

    def take(self, token):
        """Take a token that must be the next one."""
        if not self.takes(token):
            raise InvalidText(self.at)

    def number(self):
        """None, or the number that the next token is."""
        token = self.ahead()
        if token == "" or len(token) > MOST_DIGITS or not all([sign in DIGITS for sign in token]):
            return None
        if token[0] == "0" and token != "0":
            return None
        return int(token)


def read_question(text):
    """The question that a text is read as."""
    if not isinstance(text, str):
        raise InvalidText(0)
    row = TokenRow(tokens_of(text))
    p = _read_field(row)
    names, lists = _read_lists(row, p)
    row.take("pick")
    condition = _read_condition(row, names, 0)
    row.take(";")
    if row.ahead() != "":
        raise InvalidText(row.at)
    return p, tuple(names), lists, condition


def _read_field(row):
    row.take("field")
    p = row.number()
    if not is_field(p):
        raise InvalidText(row.at)
    row.skip()
    row.take(";")
    return p


def _read_lists(row, p):
    """The pair (names, lists): the places of the lists by their names, and what stands in them."""
    names = {}
    lists = []
    while lists == [] or (len(lists) < MOST_LISTS and row.ahead() == "list"):
        row.take("list")
        name = row.ahead()
        if not is_name(name) or name in names:
            raise InvalidText(row.at)
        names[name] = len(lists)
        row.skip()
        row.take(":")
        lists.append(_read_row(row, p))
        row.take(";")
    return names, tuple(lists)


def _read_row(row, p):
    found = [_read_element(row, p)]
    while len(found) < LONGEST_LIST and row.takes(","):
        found.append(_read_element(row, p))
    return tuple(sorted(set(found)))


def _read_element(row, p):
    sign = -1 if p == 0 and row.takes("-") else 1
    number = row.number()
    if not is_element(p, number):
        raise InvalidText(row.at)
    row.skip()
    return sign * number


def _told(word, parts):
    """The pair of a word and of all parts, or the only part."""
    if len(parts) == 1:
        return parts[0]
    return word, tuple(parts)


def _read_condition(row, names, deep):
    """A condition, so deep within others."""
    clauses = [_read_clause(row, names, deep)]
    while len(clauses) < MOST_PARTS and row.takes("or"):
        clauses.append(_read_clause(row, names, deep))
    return _told(SOME, clauses)


def _read_clause(row, names, deep):
    steps = [_read_step(row, names, deep)]
    while len(steps) < MOST_PARTS and row.takes("and"):
        steps.append(_read_step(row, names, deep))
    return _told(ALL, steps)


def _read_step(row, names, deep):
    if deep < DEEPEST and row.takes("not"):
        return NOT, _read_step(row, names, deep + 1)
    if deep < DEEPEST and row.takes("["):
        condition = _read_condition(row, names, deep + 1)
        row.take("]")
        return condition
    found = [_read_sum(row, names, deep, GREATEST_FORM_DEGREE)]
    word = row.ahead()
    if word not in (UNLIKE, LIKE):
        raise InvalidText(row.at)
    while len(found) < MOST_SUMS and row.takes(word):
        found.append(_read_sum(row, names, deep, GREATEST_FORM_DEGREE))
    return word, tuple([one for one, _ in found])


# What follows reads pairs: a sum and its form degree, which must not be greater than what is left for it.


def _read_sum(row, names, deep, left):
    found = [_read_signed(row, names, deep, left, row.takes("-"))]
    while len(found) < MOST_PARTS and row.ahead() in ("+", "-"):
        is_minus = row.takes("-")
        if not is_minus:
            row.skip()
        found.append(_read_signed(row, names, deep, left, is_minus))
    return _told(ADD, [one for one, _ in found]), max([many for _, many in found])


def _read_signed(row, names, deep, left, is_minus):
    one, many = _read_product(row, names, deep, left)
    if is_minus:
        return (MINUS, one), many
    return one, many


def _read_product(row, names, deep, left):
    factors = []
    used = 0
    while factors == [] or (len(factors) < MOST_PARTS and row.takes("*")):
        factor, many = _read_factor(row, names, deep, left - used)
        factors.append(factor)
        used = used + many
    return _told(TIMES, factors), used


def _read_factor(row, names, deep, left):
    token = row.ahead()
    number = row.number()
    if number is not None:
        row.skip()
        return (IS, number), 0
    if token in names and left > 0:
        row.skip()
        return (OF, names[token]), 1
    if deep < DEEPEST and row.takes("("):
        pair = _read_sum(row, names, deep + 1, left)
        row.take(")")
        return pair
    raise InvalidText(row.at)
