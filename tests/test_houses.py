"""Points [72] to [74]: houses, their deeds, and what they know."""

import unittest

from asking import assert_raised
from draws import ODD_VALUES, Draws, only_tuples, plain_choices, plain_worth
from listpicks.conditionpolynomials import condition_polynomial, told_degree
from listpicks.conditions import held, holds
from listpicks.deciding import is_decision
from listpicks.errors import InvalidQuestion, InvalidText, Refused
from listpicks.houses import House
from listpicks.living import begun, is_life, whole_condition
from listpicks.livingchanges import is_change
from listpicks.lives import lived
from listpicks.questions import question_text
from listpicks.reading import read_question
from listpicks.surelists import is_sure, sure_powers
from plain_conditions import drawn_condition
from plain_lives import drawn_change, plain_picks
from plain_texts import NAMES
from refusing import assert_refused

TEXT = "field 5; list a: 1, 2; list b: 1; pick a unlike b;"
CHANGE = ("strike", 0, 2)


def drawn_house(draws):
    """The pair (text, house) of a drawn question whose polynomial isn't refused."""
    while True:
        p, n = draws.one_of((0, 2, 3, 5)), draws.between(1, 3)
        question = (p, NAMES[:n], draws.lists(p, draws.lengths(p, n, 3)), drawn_condition(draws, n, draws.below(3), 1))
        try:
            return question_text(question), House(question_text(question))
        except Refused:
            pass


def do_some(draws, house, many):
    """Changes that are done, of those that are drawn."""
    changes = []
    for _ in range(many):
        change = drawn_change(draws, house.life())
        if is_change(house.life(), change):
            house.do(change)
            changes.append(change)
    return changes


class Houses(unittest.TestCase):
    def test_drawn_texts(self):
        draws = Draws(511)
        seen = {"pick": 0, "paper": 0}
        for _ in range(120):
            text, house = drawn_house(draws)
            p, names, lists, condition = read_question(text)
            self.assertEqual(house.names(), names)
            self.assertEqual(house.life(), begun(p, len(lists), (condition_polynomial(p, lists, condition),), lists))
            self.assertIs(is_life(house.life()), True)
            self.assertEqual(house.answer(), house.life()[4])
            self.assertTrue(only_tuples((house.names(), house.life(), house.answer(), house.sure())))
            self.assertEqual(len(house), 0)
            word, evidence = house.answer()
            seen[word] += 1
            good = held(p, lists, condition)
            self.assertEqual(word, "pick" if good else "paper")
            if good:
                self.assertIn(evidence, good)
        self.assertGreater(min(seen.values()), 15)

    def test_errors_of_texts(self):
        for value in [one for one in ODD_VALUES if not isinstance(one, str)] + [None, b"field", ["field"]]:
            assert_raised(self, InvalidText, 0, lambda: House(value))
        assert_raised(self, InvalidText, 0, lambda: House(""))
        assert_raised(self, InvalidText, 2, lambda: House("field 5"))
        assert_raised(self, InvalidText, 20, lambda: House(TEXT + ";"))
        many = "".join("list n{}: 1, 2, 3, 4;".format(at) for at in range(8))
        assert_refused(self, 4 ** 8, lambda: House("field 5;" + many + "pick n0 like n1;"))
        assert_refused(self, 4 ** 8, lambda: House("field 5;" + many + "pick not n0 unlike n1;"))
        self.assertEqual(House("field 5;" + many + "pick n0 unlike n1;").answer()[0], "pick")
        four = "a*a*a*a unlike 1"
        self.assertEqual(House("field 5; list a: 2; pick " + " and ".join([four] * 10) + ";").answer()[0], "paper")
        eleven = " and ".join([four] * 9) + " and [" + four + " and " + four + "]"
        assert_refused(self, 44, lambda: House("field 5; list a: 2; pick " + eleven + ";"))
        some = " and ".join(["n0*n1*n2*n3 unlike n4"] * 3)
        assert_refused(self, 12, lambda: House("field 5;" + many + "pick " + some + ";"))

    def test_a_house_without_a_choice(self):
        house = House("field 3; list a: 1; pick a unlike a;")
        self.assertEqual((house.life()[2], house.answer(), house.sure()), (((),), ("paper", ((),)), None))
        house = House("field 3; list a: 1; pick a like a;")
        self.assertEqual((house.answer(), house.sure()), (("pick", (1,)), (0,)))

    def test_like_is_said_of_the_elements_of_the_text(self):
        house = House("field 7; list a: 1, 2; list b: 2, 3; pick a like b;")
        f = house.life()[2][0]
        self.assertEqual([choice for choice in plain_choices(((1, 2), (2, 3))) if plain_worth(7, f, choice)], [(2, 2)])
        # Other elements come: the polynomial stays the condition.
        house.do(("add", 0, 5))
        self.assertEqual(house.life()[2], (f,))
        self.assertEqual(house.answer()[0], "pick" if plain_picks(7, (f,), house.life()[3]) else "paper")
        house = House("field 7; list a: 1, 2; list b: 2, 3; pick a unlike b;")
        for change in (("add", 0, 6), ("add", 1, 0), ("strike", 0, 1), ("strike", 0, 2), ("strike", 1, 0),
                       ("add", 1, 6)):
            house.do(change)
            self.assertEqual(house.answer()[0],
                             "pick" if any(a != b for a, b in plain_choices(house.life()[3])) else "paper")

    def test_no_object_equals_another_thing(self):
        house = House(TEXT)
        for value in ODD_VALUES + (House(TEXT).life(), 0, TEXT):
            self.assertIs(house == value, False)


class Deeds(unittest.TestCase):
    def test_drawn_deeds(self):
        draws = Draws(512)
        for _ in range(80):
            _, house = drawn_house(draws)
            first = house.life()
            past = [first]
            changes = []
            for _ in range(8):
                change = drawn_change(draws, house.life())
                before = house.life()
                if draws.below(4) == 0:
                    told = house.undo()
                    self.assertIs(told, len(past) > 1)
                    if told:
                        past.pop()
                        changes.pop()
                elif is_change(before, change):
                    self.assertIs(house.do(change), None)
                    changes.append(change)
                    past.append(house.life())
                    self.assertEqual(house.life(), lived(before, [change]))
                else:
                    assert_raised(self, InvalidQuestion, 1, lambda: house.do(change))
                    self.assertEqual(house.life(), before)
                self.assertEqual(house.life(), past[-1])
                self.assertEqual(len(house), len(past) - 1)
                p, n, conditions, lists, evidence = house.life()
                self.assertEqual(house.answer(), evidence)
                self.assertIs(is_decision(p, whole_condition(p, n, conditions), lists, evidence), True)
                self.assertEqual(evidence[0], "pick" if plain_picks(p, conditions, lists) else "paper")
            self.assertEqual(house.life(), lived(first, changes))
            while house.undo():
                past.pop()
                self.assertEqual(house.life(), past[-1])
            self.assertEqual((house.life(), len(house)), (first, 0))
            self.assertIs(house.undo(), False)

    def test_what_cannot_be_done_changes_nothing(self):
        house = House(TEXT)
        house.do(CHANGE)
        life = house.life()
        for value in ODD_VALUES + (CHANGE, ("strike", 0, 1), ("add", 0, 5), ["add", 0, 3], ("less", 1),
                                   ("add", 0, True)):
            assert_raised(self, InvalidQuestion, 1, lambda: house.do(value))
            self.assertEqual((house.life(), len(house)), (life, 1))

    def test_undone_is_just_the_life_that_was(self):
        house = House("field 5; list a: 1, 2, 3; list b: 1; pick a unlike b;")
        for change in (("strike", 0, 2), ("add", 0, 4), ("less", 0), ("more", ())):
            before = house.life()
            house.do(change)
            self.assertNotEqual(house.life(), before)
            self.assertIs(house.undo(), True)
            self.assertEqual(house.life(), before)

    def test_houses_do_not_share_deeds(self):
        one, other = House(TEXT), House(TEXT)
        one.do(CHANGE)
        self.assertEqual((len(one), len(other), other.answer()), (1, 0, ("pick", (2, 1))))


class Looks(unittest.TestCase):
    def test_what_work_returns(self):
        house = House(TEXT)
        self.assertIs(house.within(lambda same: same), house)
        for value in ODD_VALUES:
            self.assertIs(house.within(lambda same: value), value)
        self.assertEqual(house.within(lambda same: (same.do(CHANGE), same.answer()[0], len(same))), (None, "paper", 1))
        self.assertEqual((house.answer(), len(house)), (("pick", (2, 1)), 0))

    def test_what_was_done_and_undone_in_it(self):
        house = House("field 5; list a: 1, 2, 3; list b: 1; pick a unlike b;")
        house.do(("strike", 0, 3))
        house.do(("add", 1, 4))
        life = house.life()

        def back(same):
            self.assertEqual((same.undo(), same.undo(), same.undo()), (True, True, False))
            same.do(("less", 0))
            return same.life(), len(same)

        self.assertEqual(house.within(back)[1], 1)
        self.assertEqual((house.life(), len(house)), (life, 2))
        self.assertIs(house.undo(), True)
        self.assertEqual(house.life()[3], ((1, 2), (1,)))
        self.assertIs(house.undo(), True)
        self.assertEqual((house.life()[3], house.undo()), (((1, 2, 3), (1,)), False))

    def test_errors_are_passed_on(self):
        house = House(TEXT)
        house.do(("add", 1, 3))
        life = house.life()

        def wrong(same):
            same.do(CHANGE)
            same.do(("more", ()))
            same.do(CHANGE)

        assert_raised(self, InvalidQuestion, 1, lambda: house.within(wrong))
        self.assertEqual((house.life(), len(house)), (life, 1))

        def odd(same):
            same.undo()
            same.undo()
            raise KeyError("odd")

        with self.assertRaises(KeyError):
            house.within(odd)
        self.assertEqual((house.life(), len(house)), (life, 1))

    def test_one_within_another(self):
        house = House(TEXT)

        def inner(same):
            same.do(("less", 0))
            return len(same), same.answer()[0]

        def outer(same):
            same.do(CHANGE)
            told = same.within(inner)
            return told, len(same), same.answer()[0]

        self.assertEqual(house.within(outer), ((2, "pick"), 1, "paper"))
        self.assertEqual((house.answer(), len(house)), (("pick", (2, 1)), 0))

        def failing(same):
            same.do(("add", 0, 3))
            try:
                same.within(lambda one: (one.do(CHANGE), one.do(CHANGE)))
            except InvalidQuestion:
                return len(same), same.life()[3]
            return None

        self.assertEqual(house.within(failing), (1, ((1, 2, 3), (1,))))
        self.assertEqual(house.life()[3], ((1, 2), (1,)))

    def test_drawn_looks(self):
        draws = Draws(513)
        for _ in range(60):
            _, house = drawn_house(draws)
            do_some(draws, house, draws.below(4))
            life, many = house.life(), len(house)
            house.within(lambda same: (do_some(draws, same, 3), same.undo(), same.within(lambda one: do_some(draws, one,
                                                                                                             2))))
            self.assertEqual((house.life(), len(house)), (life, many))


class Sure(unittest.TestCase):
    def test_drawn_houses(self):
        draws = Draws(514)
        some = 0
        for _ in range(100):
            _, house = drawn_house(draws)
            do_some(draws, house, draws.below(4))
            p, n, conditions, lists, evidence = house.life()
            lengths = tuple(len(row) for row in lists)
            whole = whole_condition(p, n, conditions)
            found = house.sure()
            if found is None:
                self.assertIs(sure_powers(whole, lengths), None)
                continue
            some += 1
            self.assertIs(is_sure(whole, lengths, found), True)
            self.assertEqual(evidence[0], "pick")
            # It stays a pick if each element is struck for another one that comes.
            for at, row in enumerate(lists):
                for one in row:
                    others = [other for other in (range(p) if p else range(-9, 40)) if other not in house.life()[3][at]]
                    if others and len(house.life()[3][at]) < 12:
                        house.do(("add", at, draws.one_of(others)))
                        house.do(("strike", at, one))
            self.assertEqual([len(row) for row in house.life()[3]], list(lengths))
            self.assertEqual(house.answer()[0], "pick")
            self.assertIs(is_sure(whole, lengths, house.sure()), True)
        self.assertGreater(some, 25)

    def test_all_conditions_count(self):
        house = House(TEXT)
        self.assertEqual(house.sure(), (1, 0))
        house.do(("more", (((0, 1), 4), ((1, 0), 1))))
        self.assertIs(house.sure(), None)
        house.do(("add", 0, 4))
        self.assertEqual(house.sure(), (2, 0))
        house.do(("less", 0))
        self.assertEqual(house.sure(), (1, 0))
        house.do(("less", 0))
        self.assertEqual(house.sure(), (0, 0))
        house.do(("more", ()))
        self.assertIs(house.sure(), None)

    def test_told_degrees_and_what_holds(self):
        draws = Draws(515)
        for _ in range(40):
            text, house = drawn_house(draws)
            p, _, lists, condition = read_question(text)
            f = house.life()[2][0]
            self.assertEqual(max((sum(powers) for powers, _ in f), default=-1), told_degree(p, lists, condition))
            for choice in plain_choices(lists):
                self.assertIs(plain_worth(p, f, choice) != 0, holds(p, condition, choice))


if __name__ == "__main__":
    unittest.main()
