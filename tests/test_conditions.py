"""Point [61]: conditions, where they hold, and their straight forms."""

import unittest

from draws import FIELDS, JUST_SO_MANY, MORE, MORE_COUNT, ODD_VALUES, Draws, only_tuples, plain_choices
from listpicks.conditions import held, holds, is_condition, straight
from plain_conditions import A, B, C, ONE_IS, drawn_condition, plain_form_degree, plainly
from refusing import assert_refused

LESS = ("unlike", (A, B))
EQUAL = ("like", (A, B))


def told_sum(n, one):
    """Whether a sum stands in a condition that is one."""
    return is_condition(n, ("like", (one, ONE_IS)))


class WhatConditionsAre(unittest.TestCase):
    def test_drawn_ones(self):
        draws = Draws(411)
        for _ in range(200):
            n = draws.between(1, 10)
            condition = drawn_condition(draws, n, draws.below(4))
            self.assertIs(is_condition(n, condition), True)
            self.assertIs(is_condition(n, straight(condition)), True)

    def test_sums(self):
        for one in (("is", 0), ("is", 10 ** 30 - 1), ("of", 0), ("of", 2), ("minus", A),
                    ("minus", ("minus", ("is", 5))), ("add", (A, B)), ("add", (A,) * 10), ("times", (A, B, C, A)),
                    ("times", (ONE_IS,) * 10), ("times", (("add", (A, B)), ("minus", C))),
                    ("add", (("times", (A, A, A, A)), ("is", 3)))):
            self.assertIs(told_sum(3, one), True, one)
        for one in (("is", 10 ** 30), ("is", -1), ("is", True), ("is", 1.0), ("is", "1"), ("is", None), ("is", (1,)),
                    ("is",), ("is", 1, 1), ["is", 1], ("Is", 1), ("of", 3), ("of", -1), ("of", False), ("of", 0.0),
                    ("of", None), ("of", A), ("of", 10 ** 40), ("minus", 1), ("minus", (A, B)), ("minus",),
                    ("minus", A, B), ("minus", None), ("add", (A,)), ("add", ()), ("add", (A,) * 11), ("add", [A, B]),
                    ("add", A), ("add", (A, 1)), ("add", (1, A)), ("add", A, B), ("add", (A, ["of", 1])),
                    ("times", (A,)), ("times", (ONE_IS,) * 11), ("times", ()), ("times", [A, B]), ("times", (A, None)),
                    ("plus", (A, B)), ("", 1), (1, 1), (b"is", 1), (None, 1), "is", ("is", [1]), 1, None, (), LESS,
                    ("not", A), ("like", (A, B))):
            self.assertIs(told_sum(3, one), False, one)

    def test_form_degrees(self):
        four = ("times", (A, B, A, B))
        for one in (four, ("times", (("times", (A, A)), ("times", (B, B)))), ("times", (four, ONE_IS)), ("minus", four),
                    ("times", (("add", (A, ("times", (A, B, A)))), ("add", (B, ONE_IS)))), ("add", (four,) * 10)):
            self.assertEqual(plain_form_degree(one), 4)
            self.assertIs(told_sum(2, one), True, one)
        for one in (("times", (A, B, A, B, A)), ("times", (four, A)), ("times", (("minus", A), four)),
                    ("times", (A,) * 10),
                    ("times", (("add", (A, ("times", (A, B, A)))), ("add", (B, ("times", (A, A)))))),
                    ("add", (ONE_IS, ("times", (four, B)))), ("times", (("is", 0), ("times", (A, A, A)),
                                                                        ("times", (A, A))))):
            self.assertGreater(plain_form_degree(one), 4)
            self.assertIs(told_sum(2, one), False, one)

    def test_conditions(self):
        for condition in (LESS, EQUAL, ("unlike", (A,) * 5), ("like", (A,) * 5), ("all", (LESS, EQUAL)),
                          ("some", (LESS,) * 10), ("all", (LESS,) * 10), ("not", LESS),
                          ("not", ("not", ("not", EQUAL))), ("some", (("all", (LESS, ("not", EQUAL))), LESS))):
            self.assertIs(is_condition(2, condition), True, condition)
        for condition in (("unlike", (A,)), ("unlike", ()), ("unlike", (A,) * 6), ("like", (A,)), ("like", (A,) * 6),
                          ("unlike", [A, B]), ["unlike", (A, B)], ("unlike", A, B), ("unlike", (A, LESS)),
                          ("unlike", (A, 1)), ("unlike", (1, A)), ("Unlike", (A, B)), ("all", (LESS,)), ("all", ()),
                          ("all", (LESS,) * 11), ("all", [LESS, LESS]), ("all", LESS), ("all", (LESS, A)),
                          ("all", (A, LESS)), ("some", (LESS,)), ("some", (LESS,) * 11), ("some", (LESS, None)),
                          ("not", (LESS,)), ("not", (LESS, LESS)), ("not",), ("not", LESS, LESS), ("not", None),
                          ("not", A), ("none", LESS), ("none", (LESS, LESS)), ("", LESS), (b"not", LESS), (1, LESS), A,
                          ONE_IS, ("all", (LESS, ["not", LESS])), ("unlike", (A, C)), "not", ("unlike", "ab")):
            self.assertIs(is_condition(2, condition), False, condition)
        self.assertIs(is_condition(1, LESS), False)
        self.assertIs(is_condition(3, ("unlike", (A, C))), True)

    def test_values_of_every_kind(self):
        for value in ODD_VALUES:
            self.assertIs(is_condition(3, value), False, value)
            for word in ("not", "all", "some", "like", "unlike"):
                self.assertIs(is_condition(3, (word, value)), False, value)
            self.assertIs(is_condition(3, ("all", (LESS, value))), False, value)
            self.assertIs(is_condition(3, ("like", (A, value))), False, value)
            if type(value) is not int or value < 0 or value >= 10 ** 30:
                self.assertIs(told_sum(3, ("is", value)), False, value)
                self.assertIs(told_sum(3, ("of", value)), False, value)
            for word in ("minus", "add", "times"):
                self.assertIs(told_sum(3, (word, value)), False, value)

    def test_what_is_no_sum_may_stand_very_often(self):
        value = wrong = ("not", None)
        for _ in range(24):
            value, wrong = ("all", (value, value)), ("add", (wrong, wrong))
        self.assertIs(is_condition(2, value), False)
        self.assertIs(told_sum(2, wrong), False)


class WhereTheyHold(unittest.TestCase):
    def test_drawn_ones(self):
        draws = Draws(412)
        seen = {True: 0, False: 0}
        for _ in range(250):
            p, n = draws.one_of(FIELDS), draws.between(1, 3)
            condition = drawn_condition(draws, n, draws.below(4))
            lists = draws.lists(p, draws.lengths(p, n, 3))
            wanted = tuple(choice for choice in plain_choices(lists) if plainly(p, condition, choice))
            found = held(p, lists, condition)
            self.assertEqual(found, wanted)
            self.assertTrue(only_tuples(found))
            for choice in plain_choices(lists):
                told = holds(p, condition, choice)
                seen[told] += 1
                self.assertIs(told, choice in wanted)
        self.assertGreater(min(seen.values()), 300)

    def test_each_sum(self):
        choice = (3, 4)
        for one, worth in ((("is", 12), 5), (A, 3), (("minus", A), 4), (("add", (A, B, ONE_IS)), 1),
                           (("times", (A, B)), 5), (("minus", ("times", (A, A, B))), 6),
                           (("is", 10 ** 29), 10 ** 29 % 7), (("minus", ("is", 0)), 0)):
            for number in range(7):
                self.assertIs(holds(7, ("like", (one, ("is", number))), choice), number == worth)
                self.assertIs(holds(7, ("unlike", (one, ("is", number + 14))), choice), number != worth)
        self.assertIs(holds(0, ("like", (("add", (A, ("minus", B))), ("minus", ONE_IS))), choice), True)
        self.assertIs(holds(0, ("like", (A, ("is", 10))), choice), False)

    def test_any_two_and_all(self):
        for choice, unlike, like in (((1, 2, 3), True, False), ((1, 2, 1), False, False), ((1, 1, 2), False, False),
                                     ((2, 1, 1), False, False), ((4, 4, 4), False, True)):
            self.assertIs(holds(5, ("unlike", (A, B, C)), choice), unlike)
            self.assertIs(holds(5, ("like", (A, B, C)), choice), like)
            self.assertIs(holds(5, ("not", ("like", (A, B, C))), choice), not like)

    def test_too_many_choices(self):
        condition = ("unlike", (A, A))
        self.assertEqual(held(13, JUST_SO_MANY, condition), ())
        self.assertEqual(len(held(0, JUST_SO_MANY, ("not", condition))), 20000)
        assert_refused(self, MORE_COUNT, lambda: held(13, MORE, condition), lambda: held(0, MORE, ("not", condition)))


class Straight(unittest.TestCase):
    def assert_straight(self, condition):
        word, inner = condition
        self.assertIn(word, ("all", "some", "like", "unlike"))
        if word in ("like", "unlike"):
            self.assertEqual(len(inner), 2)
        else:
            for part in inner:
                self.assert_straight(part)

    def test_it_holds_where_the_condition_does(self):
        draws = Draws(413)
        for _ in range(200):
            p, n = draws.one_of(FIELDS), draws.between(1, 3)
            condition = drawn_condition(draws, n, draws.below(5))
            found = straight(condition)
            self.assertTrue(only_tuples(found))
            self.assert_straight(found)
            self.assertEqual(straight(found), found)
            lists = draws.lists(p, draws.lengths(p, n, 3))
            self.assertEqual(held(p, lists, found), held(p, lists, condition))
            turned = straight(("not", condition))
            self.assertEqual(len(held(p, lists, turned)) + len(held(p, lists, found)), len(plain_choices(lists)))
            self.assertEqual(straight(("not", ("not", condition))), found)

    def test_each_form(self):
        three, five = (A, B, C), (A, B, C, ONE_IS, ("is", 2))
        pairs = ((A, B), (A, C), (B, C))
        self.assertEqual(straight(LESS), LESS)
        self.assertEqual(straight(EQUAL), EQUAL)
        self.assertEqual(straight(("not", LESS)), EQUAL)
        self.assertEqual(straight(("not", EQUAL)), LESS)
        self.assertEqual(straight(("not", ("not", LESS))), LESS)
        self.assertEqual(straight(("unlike", three)), ("all", tuple(("unlike", pair) for pair in pairs)))
        self.assertEqual(straight(("not", ("unlike", three))), ("some", tuple(("like", pair) for pair in pairs)))
        self.assertEqual(straight(("like", three)), ("all", (("like", (A, B)), ("like", (B, C)))))
        self.assertEqual(straight(("not", ("like", three))), ("some", (("unlike", (A, B)), ("unlike", (B, C)))))
        self.assertEqual(straight(("all", (LESS, ("not", EQUAL)))), ("all", (LESS, LESS)))
        self.assertEqual(straight(("not", ("all", (LESS, ("not", EQUAL))))), ("some", (EQUAL, EQUAL)))
        self.assertEqual(straight(("not", ("some", (("all", (LESS, EQUAL)), ("not", LESS))))),
                         ("all", (("some", (EQUAL, LESS)), LESS)))
        self.assertEqual(straight(("some", (("some", (LESS, EQUAL)), LESS))), ("some", (("some", (LESS, EQUAL)), LESS)))
        _, parts = straight(("unlike", five))
        self.assertEqual([(five.index(one), five.index(other)) for _, (one, other) in parts],
                         [(k, j) for k in range(5) for j in range(k + 1, 5)])
        _, parts = straight(("not", ("like", five)))
        self.assertEqual([(five.index(one), five.index(other)) for _, (one, other) in parts],
                         [(0, 1), (1, 2), (2, 3), (3, 4)])


if __name__ == "__main__":
    unittest.main()
