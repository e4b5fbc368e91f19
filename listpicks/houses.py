"""Houses: a life begun from a text, with deeds that can be undone."""

from listpicks.conditionpolynomials import condition_polynomial
from listpicks.living import begun, whole_condition
from listpicks.livingchanges import changed
from listpicks.reading import read_question
from listpicks.surelists import sure_powers


class House:
    """The house of the question that a text is read as."""

    def __init__(self, text):
        p, names, lists, condition = read_question(text)
        self._names = names
        self._now = begun(p, len(lists), (condition_polynomial(p, lists, condition),), lists)
        self._past = ()

    def __len__(self):
        """How many deeds can be undone."""
        return len(self._past)

    def names(self):
        """The names of the lists, in order."""
        return self._names

    def life(self):
        """The life as it is now."""
        return self._now

    def answer(self):
        """The evidence of the life."""
        return self._now[4]

    def sure(self):
        """None, or some powers that are sure for all conditions and the lengths of the lists."""
        p, n, conditions, lists, _ = self._now
        return sure_powers(whole_condition(p, n, conditions), tuple([len(row) for row in lists]))

    def do(self, change):
        """Lead the life on by a change."""
        behind = changed(self._now, change)
        self._past = self._past + (self._now,)
        self._now = behind

    def undo(self):
        """Undo the last deed; whether there was one."""
        if self._past == ():
            return False
        self._now = self._past[-1]
        self._past = self._past[:-1]
        return True

    def within(self, work):
        """What some work tells that is given the house; whatever it does there is undone."""
        now, past = self._now, self._past
        try:
            return work(self)
        finally:
            self._now, self._past = now, past
