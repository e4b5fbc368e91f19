"""Desks: a house led by commands, which are texts."""

from listpicks.errors import InvalidCommand
from listpicks.houses import House
from listpicks.livingchanges import ADD, STRIKE
from listpicks.questions import DIGITS

MOST_DIGITS = 5


def _element_told(word):
    """None, or the element that a word writes."""
    digits = word[1:] if word[:1] == "-" else word
    if not 1 <= len(digits) <= MOST_DIGITS or not all([sign in DIGITS for sign in digits]):
        return None
    if digits[0] == "0" and word != "0":
        return None
    return int(word)


class Desk:
    """A desk, at first without a house."""

    def __init__(self):
        self.house = None

    def load(self, text):
        """Begin with the house of a text."""
        self.house = House(text)
        return "ok"

    def say(self, command):
        """Do a command, and tell what it tells."""
        if not isinstance(command, str) or self.house is None:
            raise InvalidCommand("no string, or no house")
        words = command.split(" ")
        if len(words) == 3 and words[0] in (STRIKE, ADD):
            return self._change(words)
        if len(words) == 2 and words[0] == "list":
            return self._list(words[1])
        if command == "pick":
            return self._pick()
        if command == "sure":
            return "no" if self.house.sure() is None else "yes"
        if command == "undo":
            return "ok" if self.house.undo() else "nothing"
        raise InvalidCommand("no command has this form")

    def _place(self, name):
        """The index of the list with a name."""
        names = self.house.names()
        if name not in names:
            raise InvalidCommand("no list has this name")
        return names.index(name)

    def _change(self, words):
        word, name, told = words
        at = self._place(name)
        one = _element_told(told)
        if one is None:
            raise InvalidCommand("no element is written so")
        self.house.do((word, at, one))
        return "ok"

    def _list(self, name):
        row = self.house.life()[3][self._place(name)]
        return " ".join([str(one) for one in row])

    def _pick(self):
        word, choice = self.house.answer()
        if word == "paper":
            return "none"
        return " ".join([f"{name} {one}" for name, one in zip(self.house.names(), choice)])
