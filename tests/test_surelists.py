"""Point [21]: lengths that are enough."""

import unittest

from draws import FIELDS, ODD_VALUES, Draws, all_below, far_too_many, plain_choices, plain_degree, plain_worth
from listpicks.deciding import decided
from listpicks.surelists import is_sure, shortened, sure_powers

F = (((0, 2), 1), ((1, 1), 2), ((2, 0), 1))


class SurePowers(unittest.TestCase):
    def test_drawn_ones(self):
        draws = Draws(81)
        seen = {True: 0, False: 0}
        for _ in range(200):
            p, n = draws.one_of(FIELDS), draws.between(1, 3)
            f = draws.polynomial(p, n, draws.between(0, 5), draws.one_of((1, 3)))
            lengths = tuple(draws.between(1, 4) for _ in range(n))
            sure = [powers for powers, _ in f if sum(powers) == plain_degree(f)
                    and all(power < length for power, length in zip(powers, lengths))]
            found = sure_powers(f, lengths)
            seen[bool(sure)] += 1
            if sure:
                self.assertIn(found, sure)
            else:
                self.assertIs(found, None)
            for powers in all_below([length + 1 for length in lengths]):
                self.assertIs(is_sure(f, lengths, powers), powers in sure)
            if sure and all(length <= p or p == 0 for length in lengths):
                # The fact: all lists of these lengths, or longer ones, have a choice.
                for _ in range(5):
                    lists = draws.lists(p, lengths)
                    self.assertTrue(any(plain_worth(p, f, choice) for choice in plain_choices(lists)))
                    self.assertEqual(decided(p, f, lists)[0], "pick")
        self.assertGreater(min(seen.values()), 50)

    def test_edges(self):
        self.assertEqual(sure_powers(F, (2, 2)), (1, 1))
        self.assertIs(sure_powers(F, (2, 1)), None)
        self.assertEqual(sure_powers(F, (3, 1)), (2, 0))
        self.assertIs(sure_powers((), (5, 5)), None)
        self.assertEqual(sure_powers((((0, 0), 3),), (1, 1)), (0, 0))
        self.assertIs(sure_powers((((0, 0), 1), ((1, 0), 1)), (1, 1)), None)
        self.assertEqual(sure_powers((((0, 0), 1), ((1, 0), 1)), (2, 1)), (1, 0))
        self.assertEqual(sure_powers((((40,) * 10, 1),), (41,) * 10), (40,) * 10)
        self.assertIs(sure_powers((((40,) * 10, 1),), (41,) * 9 + (40,)), None)
        self.assertEqual(sure_powers(F, (10 ** 30, 10 ** 30)) in ((0, 2), (1, 1), (2, 0)), True)

    def test_a_term_of_a_lesser_degree_is_not_sure(self):
        f = (((0, 1), 1), ((3, 3), 1))
        self.assertIs(sure_powers(f, (2, 2)), None)
        self.assertIs(is_sure(f, (2, 2), (0, 1)), False)
        self.assertIs(is_sure(f, (4, 4), (3, 3)), True)


class WhatSurePowersAre(unittest.TestCase):
    def test_near_ones(self):
        self.assertIs(is_sure(F, (3, 1), (2, 0)), True)
        self.assertIs(is_sure(F, (2, 2), (1, 1)), True)
        for value in ([1, 1], (True, True), (1, True), (1.0, 1), (1,), (1, 1, 0), (2, 0), (0, 2), (0, 0), (-1, 3),
                      ("1", 1), (None, 1), ((1, 1),), "11", None, 11, {1: 1}, ((1, 1), 2), (3, -1)):
            self.assertIs(is_sure(F, (2, 2), value), False, value)
        self.assertIs(is_sure((((0, 0), 1),), (1, 1), (0, 0)), True)
        self.assertIs(is_sure((((0, 0), 1),), (1, 1), (False, 0)), False)
        self.assertIs(is_sure((), (1, 1), (0, 0)), False)
        self.assertIs(is_sure((((0, 0), 1), ((1, 0), 1)), (1, 1), (1, 0)), False)

    def test_values_of_every_kind(self):
        for value in ODD_VALUES + ((),):
            self.assertIs(is_sure(F, (3, 3), value), False, value)
            self.assertIs(is_sure((), (3, 3), value), False, value)


class Shortened(unittest.TestCase):
    def test_first_elements(self):
        self.assertEqual(shortened(((1, 3), (0, 2, 4)), (0, 1)), ((1,), (0, 2)))
        self.assertEqual(shortened(((1, 3), (0, 2, 4)), (1, 2)), ((1, 3), (0, 2, 4)))
        self.assertEqual(shortened(((-5, 3),), (0,)), ((-5,),))
        self.assertEqual(shortened(far_too_many(13), (0, 11, 3) + (0,) * 7)[:3],
                         ((0,), tuple(range(12)), (0, 1, 2, 3)))


if __name__ == "__main__":
    unittest.main()
