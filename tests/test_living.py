"""Point [68]: lives."""

import unittest

from asking import assert_raised
from draws import FIELDS, ODD_VALUES, Draws, is_told_polynomial, only_tuples, plain_choices
from listpicks.errors import InvalidQuestion
from listpicks.living import begun, is_life, whole_condition
from plain_lives import dense, drawn_conditions, one_term, pairs_sum, plain_picks, plain_whole

F = (((0, 1), 4), ((1, 0), 1))
LISTS = ((1, 2), (1,))
LIFE = (5, 2, (F,), LISTS, ("pick", (2, 1)))


class Lives(unittest.TestCase):
    def test_whole_conditions(self):
        draws = Draws(481)
        for _ in range(100):
            p, n = draws.one_of(FIELDS), draws.between(1, 3)
            conditions = drawn_conditions(draws, p, n, draws.lists(p, draws.lengths(p, n, 2)))
            found = whole_condition(p, n, conditions)
            self.assertEqual(found, plain_whole(p, n, conditions))
            self.assertTrue(is_told_polynomial(p, n, found))
        self.assertEqual(whole_condition(5, 2, ()), (((0, 0), 1),))
        self.assertEqual(whole_condition(5, 2, (F,)), F)
        self.assertEqual(whole_condition(5, 2, (F, (), F)), ())

    def test_drawn_lives(self):
        draws = Draws(482)
        seen = {"pick": 0, "paper": 0}
        for _ in range(200):
            p, n = draws.one_of(FIELDS), draws.between(1, 3)
            lists = draws.lists(p, draws.lengths(p, n, 3))
            conditions = drawn_conditions(draws, p, n, lists)
            found = begun(p, n, conditions, lists)
            self.assertTrue(only_tuples(found))
            self.assertEqual(found[:4], (p, n, conditions, lists))
            self.assertIs(is_life(found), True)
            good = plain_picks(p, conditions, lists)
            seen[found[4][0]] += 1
            self.assertEqual(found[4][0], "pick" if good else "paper")
            for choice in plain_choices(lists):
                self.assertIs(is_life(found[:4] + (("pick", choice),)), choice in good)
        self.assertGreater(min(seen.values()), 40)

    def test_no_conditions_twelve_and_thirteen(self):
        for many in (0, 1, 11, 12):
            found = begun(5, 2, (F,) * many, LISTS)
            self.assertEqual(found[4], ("pick", (2 if many else 1, 1)))
            self.assertIs(is_life(found), True)
        assert_raised(self, InvalidQuestion, 2, lambda: begun(5, 2, (F,) * 13, LISTS))
        self.assertIs(is_life((5, 2, (F,) * 13, LISTS, ("pick", (2, 1)))), False)
        self.assertIs(is_life((5, 2, (F,) * 12, LISTS, ("pick", (2, 1)))), True)

    def test_what_is_no_condition(self):
        for conditions in ODD_VALUES + ([F], (F, None), (F, [F]), F, (F, (((0, 1), 5),)), (F, (((0, 1), True),)),
                                        ((F,),), ((((1,), 1),),), ((((1, 41), 1),),), (F, (((1, 0), 1), ((0, 1), 1)))):
            assert_raised(self, InvalidQuestion, 2, lambda: begun(5, 2, conditions, LISTS),
                          lambda: begun(5, 2, conditions, None))
            self.assertIs(is_life((5, 2, conditions, LISTS, ("pick", (2, 1)))), False)

    def test_what_are_no_lists(self):
        for lists in ODD_VALUES + ([(1, 2), (1,)], ([1, 2], (1,)), ((1, 2),), ((1, 2), (1,), (1,)), ((2, 1), (1,)),
                                   ((1, 1), (1,)), ((), (1,)), ((1, 5), (1,)), ((1, True), (1,)), ((1, 2.0), (1,)),
                                   (tuple(range(13)), (1,))):
            assert_raised(self, InvalidQuestion, 3, lambda: begun(5, 2, (F,), lists))
            self.assertIs(is_life((5, 2, (F,), lists, ("pick", (2, 1)))), False)

    def test_terms(self):
        # 3,000 terms may be, alone and as a product of the first ones.
        n = 5
        just, more = dense(n, 3000), dense(n, 3001)
        lists = ((1,),) * n
        self.assertIs(is_life(begun(0, n, (just,), lists)), True)
        self.assertIs(is_life((0, n, (just,), lists, ("pick", (1,) * n))), True)
        self.assertIs(is_life((0, n, (more,), lists, ("pick", (1,) * n))), False)
        assert_raised(self, InvalidQuestion, 2, lambda: begun(0, n, (more,), lists), lambda: begun(0, n,
                                                                                                   (one_term(n, 0, 1),
                                                                                                    more), lists),
                      lambda: begun(0, n, ((), more), lists), lambda: begun(0, n, (more, ()), lists))
        # 54 times 55 terms are 2,970, 55 times 55 are 3,025.
        one, other = dense(3, 55), dense(3, 54)
        moved = tuple(sorted((powers[::-1], factor) for powers, factor in one))
        lists = ((1,),) * 3
        sizes = [len(plain_whole(0, 3, pair)) for pair in ((one, other), (one, moved))]
        self.assertLess(max(sizes), 3000)
        wide = tuple((powers + (0, 0, 0), 1) for powers, _ in one), tuple(((0, 0, 0) + powers, 1) for powers, _ in one)
        self.assertEqual(len(plain_whole(0, 6, wide)), 3025)
        less = (wide[0], wide[1][1:])
        self.assertEqual(len(plain_whole(0, 6, less)), 2970)
        lists = ((1,),) * 6
        self.assertIs(is_life(begun(0, 6, less, lists)), True)
        assert_raised(self, InvalidQuestion, 2, lambda: begun(0, 6, wide, lists), lambda: begun(0, 6, wide + ((),),
                                                                                                lists))
        self.assertIs(is_life((0, 6, wide, lists, ("pick", (1,) * 6))), False)
        # In this order no product of first ones has too many.
        self.assertIs(is_life(begun(0, 6, ((),) + wide, lists)), True)

    def test_products_whose_terms_add_up_to_nothing(self):
        # 1,024 terms each; the product has 1,024, too, though there are 59,049 sums of their powers.
        plus, less = pairs_sum(10, 1), pairs_sum(10, -1)
        lists = ((2,),) * 10
        self.assertEqual(len(plus), 1024)
        found = begun(0, 10, (plus, less), lists)
        self.assertEqual((found[4], is_life(found)), (("pick", (2,) * 10), True))
        # Twice the same has 3 to the power 10.
        assert_raised(self, InvalidQuestion, 2, lambda: begun(0, 10, (plus, plus), lists))
        self.assertIs(is_life((0, 10, (plus, plus), lists, ("pick", (2,) * 10))), False)

    def test_what_is_taken_away_late(self):
        # The product with 1 - y + y ** 2 and so on; y comes first, so that like terms come late.
        draws = Draws(484)
        rest = set()
        while len(rest) < 1500:
            rest.add(tuple(draws.below(8) for _ in range(6)))
        f = tuple(sorted(((power,) + powers, 1) for powers in rest for power in (0, 1)))
        g = tuple(((power,) + (0,) * 6, (-1) ** power) for power in range(21))
        whole = tuple(sorted(((power,) + powers, 1) for powers in rest for power in (0, 21)))
        self.assertEqual(whole_condition(0, 7, (f, g)), whole)
        lists = ((1,),) * 7
        for conditions in ((f, g), (g, f)):
            self.assertIs(is_life(begun(0, 7, conditions, lists)), True)
        assert_raised(self, InvalidQuestion, 2, lambda: begun(0, 7, (f, g[:20] + (((20,) + (0,) * 6, 2),)), lists))

    def test_far_too_many_terms(self):
        draws = Draws(483)
        for p, n, most in ((0, 10, 4), (7, 10, 20), (101, 3, 20), (0, 5, 8)):
            f, g = [draws.polynomial(p, n, 2900, most) for _ in range(2)]
            assert_raised(self, InvalidQuestion, 2, lambda: begun(p, n, (f, g), ((1,),) * n))

    def test_powers_of_40_and_of_41(self):
        for p in (0, 7):
            for powers in ((20, 20), (40,), (1, 39), (13, 13, 14), (40, 0)):
                self.assertIs(is_life(begun(p, 2, tuple(one_term(2, 1, power) for power in powers), ((1, 2), (1, 2)))),
                              True)
            for powers in ((20, 21), (40, 1), (1, 1, 39), (41,)):
                assert_raised(self, InvalidQuestion, 2,
                              lambda: begun(p, 2, tuple(one_term(2, 1, power) for power in powers), ((1, 2), (1, 2))))
            # Of one unknown, not of all together.
            self.assertIs(is_life(begun(p, 2, (one_term(2, 0, 40), one_term(2, 1, 40)), ((1, 2), (1, 2)))), True)
            self.assertIs(is_life((p, 2, (one_term(2, 0, 30), one_term(2, 0, 11)), ((1,), (1,)), ("pick", (1, 1)))),
                          False)


class WhatLivesAre(unittest.TestCase):
    def test_near_ones(self):
        self.assertIs(is_life(LIFE), True)
        paper = ((((0, 0), 1),), (((0, 0), 4),))
        self.assertIs(is_life((5, 2, (F,), ((1,), (1,)), ("paper", paper))), True)
        self.assertIs(is_life((5, 2, (F, F), ((1,), (1,)), ("paper", paper))), False)
        self.assertIs(is_life((5, 2, (F,), LISTS, ("paper", paper))), False)
        for at, wrong in ((0, 4), (0, 3.0), (0, True), (0, None), (0, "5"), (1, 3), (1, 1), (1, 2.0), (1, True),
                          (1, None), (1, 0), (1, 11), (2, [F]), (2, F), (2, ((),)), (3, [(1, 2), (1,)]),
                          (3, ((1,), (1,))), (4, ("pick", (1, 1))), (4, ("pick", (3, 1))), (4, ["pick", (2, 1)]),
                          (4, ("pick", [2, 1])), (4, ("pick", (2, True))), (4, ("paper", ((), ()))), (4, None),
                          (4, ("pick",)), (4, ("pick", (2,))), (4, ("picks", (2, 1)))):
            self.assertIs(is_life(LIFE[:at] + (wrong,) + LIFE[at + 1:]), False, (at, wrong))
        for value in (list(LIFE), LIFE[:4], LIFE + ((),), (LIFE,)):
            self.assertIs(is_life(value), False)
        self.assertIs(is_life((2, 1, (), ((1,),), ("pick", (1,)))), True)
        self.assertIs(is_life((2, True, (), ((1,),), ("pick", (1,)))), False)
        self.assertIs(is_life((0, 1, (), ((1,),), ("pick", (True,)))), False)
        self.assertIs(is_life((False, 1, (), ((1,),), ("pick", (1,)))), False)
        self.assertIs(is_life((0, 10, (), ((1,),) * 10, ("pick", (1,) * 10))), True)
        self.assertIs(is_life((0, 11, (), ((1,),) * 11, ("pick", (1,) * 11))), False)

    def test_values_of_every_kind(self):
        for value in ODD_VALUES:
            self.assertIs(is_life(value), False, value)
            for at in range(5):
                if at == 0 and type(value) is int and value in (0, 7):
                    continue
                self.assertIs(is_life(LIFE[:at] + (value,) + LIFE[at + 1:]), False, (at, value))


if __name__ == "__main__":
    unittest.main()
