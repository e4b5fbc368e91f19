"""Points [19] and [20]: differences, the weighted sum, and the factor of the top."""

import unittest

from draws import (FIELDS, JUST_SO_MANY, MORE, MORE_COUNT, Draws, divided_worth, far_too_many, multiplied,
                   plain_choices, plain_degree, plain_differences, plain_worth, row_product, summed)
from listpicks.division import least_form
from listpicks.errors import Refused
from listpicks.weights import differences, top_factor, weighted_sum


def plain_sum(p, f, lists):
    """The sum over all choices of the worth divided by the differences, over 0 with fractions."""
    total = sum(divided_worth(p, plain_worth(p, f, choice), plain_differences(p, lists, choice))
                for choice in plain_choices(lists))
    return total % p if p else total


def top_of(lists):
    return tuple(len(row) - 1 for row in lists)


class Differences(unittest.TestCase):
    def test_drawn_choices(self):
        draws = Draws(71)
        for _ in range(60):
            p, n = draws.one_of(FIELDS), draws.between(1, 4)
            lists = draws.lists(p, draws.lengths(p, n, 5))
            for _ in range(5):
                choice = tuple(draws.one_of(row) for row in lists)
                found = differences(p, lists, choice)
                self.assertEqual(found, plain_differences(p, lists, choice))
                self.assertNotEqual(found, 0)

    def test_edges(self):
        self.assertEqual(differences(5, ((1, 3), (0, 2)), (1, 2)), 1)
        self.assertEqual(differences(0, ((7,), (-3,)), (7, -3)), 1)
        self.assertEqual(differences(0, ((1, 4),), (1,)), -3)
        self.assertEqual(differences(0, ((1, 4),), (4,)), 3)
        self.assertEqual(differences(2, ((0, 1), (0, 1)), (0, 1)), 1)
        self.assertEqual(differences(7, ((0, 1, 3),), (0,)), 3)
        self.assertEqual(differences(0, (tuple(range(12)),), (0,)), -39916800)
        self.assertEqual(differences(13, far_too_many(13)[:9], (0,) * 9), 12)


class Sums(unittest.TestCase):
    def test_drawn_sums(self):
        draws = Draws(72)
        fractions = 0
        for _ in range(200):
            p, n = draws.one_of(FIELDS + (0, 0)), draws.between(1, 3)
            lists = draws.lists(p, draws.lengths(p, n, 4))
            f = draws.polynomial(p, n, draws.between(0, 7), draws.one_of((1, 3, 8)))
            wanted = plain_sum(p, f, lists)
            self.assertEqual(weighted_sum(p, f, lists), wanted)
            self.assertEqual(top_factor(p, f, lists), wanted)
            self.assertEqual(dict(least_form(p, f, lists)).get(top_of(lists), 0), wanted)
            for found in (weighted_sum(p, f, lists), top_factor(p, f, lists)):
                self.assertIs(type(found), int)
            if plain_degree(f) <= sum(top_of(lists)):
                self.assertEqual(dict(f).get(top_of(lists), 0), wanted)
            if wanted:
                self.assertTrue(any(plain_worth(p, f, choice) for choice in plain_choices(lists)))
            fractions += p == 0 and any(plain_worth(0, f, choice) % plain_differences(0, lists, choice)
                                        for choice in plain_choices(lists))
        self.assertGreater(fractions, 20)

    def test_only_the_lengths_count(self):
        draws = Draws(73)
        for _ in range(60):
            p, n = draws.one_of(FIELDS), draws.between(1, 3)
            lengths = draws.lengths(p, n, 4)
            top = tuple(length - 1 for length in lengths)
            f = summed(p, (((top), 1),), draws.polynomial(p, n, 5, 2))
            f = tuple(term for term in f if sum(term[0]) <= sum(top))
            for _ in range(3):
                lists = draws.lists(p, lengths)
                self.assertEqual(weighted_sum(p, f, lists), dict(f).get(top, 0))
                self.assertEqual(top_factor(p, f, lists), dict(f).get(top, 0))

    def test_multiples_of_list_products_add_0(self):
        draws = Draws(74)
        for _ in range(40):
            p = draws.one_of(FIELDS)
            lists = draws.lists(p, draws.lengths(p, 2, 4))
            f = multiplied(p, draws.polynomial(p, 2, 4, 4), row_product(p, 2, 1, lists[1]))
            self.assertEqual((weighted_sum(p, f, lists), top_factor(p, f, lists)), (0, 0))

    def test_edges(self):
        f = (((0, 2), 1), ((1, 1), 2), ((2, 0), 1))
        self.assertEqual(weighted_sum(5, f, ((1, 3), (0, 2))), 2)
        self.assertEqual((top_factor(5, f, ((1, 3), (0, 2))), top_factor(5, f, ((1,), (2,)))), (2, 4))
        # 1 / -3 and 64 / 3: no integers, but their sum is one.
        self.assertEqual((weighted_sum(0, (((3,), 1),), ((1, 4),)), top_factor(0, (((3,), 1),), ((1, 4),))), (21, 21))
        self.assertEqual((weighted_sum(5, (), ((1, 3),)), top_factor(5, (), ((1, 3),))), (0, 0))
        self.assertEqual((weighted_sum(5, (((0,), 3),), ((1,),)), top_factor(5, (((0,), 3),), ((1,),))), (3, 3))
        self.assertEqual((weighted_sum(5, (((0,), 3),), ((1, 2),)), top_factor(5, (((0,), 3),), ((1, 2),))), (0, 0))
        self.assertEqual(weighted_sum(0, (((40,), 1),), ((10 ** 20, 1 + 10 ** 20),)),
                         (10 ** 20 + 1) ** 40 - 10 ** 800)

    def test_more_are_refused(self):
        for p, lists, count in ((0, MORE, MORE_COUNT), (13, MORE, MORE_COUNT), (13, far_too_many(13), 12 ** 10)):
            for f in ((), (((1,) * len(lists), 1),)):
                with self.assertRaises(Refused) as caught:
                    weighted_sum(p, f, lists)
                self.assertEqual(caught.exception.at, count)
        top = top_of(JUST_SO_MANY)
        for p in (0, 11):
            self.assertEqual(weighted_sum(p, ((top, 3), ((40,) + (0,) * 4, 1)), JUST_SO_MANY), 3)

    def test_no_choices_are_gone_through_for_the_top(self):
        for p in (0, 13, 101):
            lists = far_too_many(p)
            f = summed(p, (((11,) * 10, 5),), (((1,) * 10, 1),), row_product(p, 10, 4, lists[4]))
            self.assertEqual(top_factor(p, f, lists), 5)
            self.assertEqual(top_factor(p, (((12,) + (11,) * 9, 1),), lists), sum(lists[0]) % p if p else sum(lists[0]))
            self.assertEqual(top_factor(p, (((11,) * 9 + (12,), 1),), lists), sum(lists[9]) % p if p else sum(lists[9]))
            self.assertEqual(top_factor(p, (((11,) * 9 + (10,), 1),), lists), 0)


if __name__ == "__main__":
    unittest.main()
