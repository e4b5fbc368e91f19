"""Points [24] and [25]: how few choices there can be."""

import unittest

from draws import (FIELDS, Draws, all_below, far_too_many, is_told_polynomial, multiplied, plain_choices, plain_degree,
                   plain_worth, row_product)
from listpicks.errors import Refused
from listpicks.fewpicks import fewest_condition, least_picks, least_shape


def product_of(numbers):
    found = 1
    for number in numbers:
        found *= number
    return found


class LeastProducts(unittest.TestCase):
    def test_drawn_lengths(self):
        draws = Draws(101)
        for _ in range(60):
            lengths = tuple(draws.between(1, 4) for _ in range(draws.between(1, 4)))
            most = sum(lengths) - len(lengths)
            for d in range(most + 3):
                shape = least_shape(lengths, d)
                self.assertIs(type(shape), tuple)
                self.assertTrue(all(1 <= left <= length for left, length in zip(shape, lengths)))
                self.assertEqual(sum(lengths) - sum(shape), min(d, most))
                same = [one for one in all_below([length + 1 for length in lengths])
                        if 0 not in one and sum(one) == sum(shape)]
                self.assertEqual(least_picks(lengths, d), min(product_of(one) for one in same))
                self.assertEqual(least_picks(lengths, d), product_of(shape))
                self.assertIs(least_picks(lengths, d) == 1, d >= most)

    def test_from_the_shortest_on_the_first_first(self):
        self.assertEqual(least_shape((3, 2, 4), 2), (2, 1, 4))
        self.assertEqual(least_shape((3, 3, 3), 1), (2, 3, 3))
        self.assertEqual(least_shape((3, 3, 3), 3), (1, 2, 3))
        self.assertEqual(least_shape((4, 3, 3), 3), (4, 1, 2))
        self.assertEqual(least_shape((12, 1, 2), 5), (8, 1, 1))
        self.assertEqual(least_shape((5, 4), 3), (5, 1))
        self.assertEqual(least_shape((2, 12), 1), (1, 12))

    def test_edges(self):
        self.assertEqual((least_shape((4, 2), 0), least_picks((4, 2), 0)), ((4, 2), 8))
        self.assertEqual((least_shape((4, 2), 4), least_picks((4, 2), 4)), ((1, 1), 1))
        self.assertEqual((least_shape((4, 2), 10 ** 30), least_picks((4, 2), 10 ** 30)), ((1, 1), 1))
        self.assertEqual((least_shape((1,), 0), least_picks((1,), 0), least_picks((1,), 9)), ((1,), 1, 1))
        self.assertEqual(least_picks((12,) * 10, 0), 12 ** 10)
        self.assertEqual(least_picks((12,) * 10, 12), 11 * 12 ** 8)
        for n in range(1, 11):
            for d in range(n + 1):
                self.assertEqual(least_picks((2,) * n, d), 2 ** (n - d))


class FewChoices(unittest.TestCase):
    def test_never_fewer(self):
        draws = Draws(102)
        for _ in range(200):
            p, n = draws.one_of(FIELDS), draws.between(1, 3)
            lists = draws.lists(p, draws.lengths(p, n, 4))
            f = draws.polynomial(p, n, draws.between(1, 4), 2)
            if draws.below(2):
                f = multiplied(p, f, row_product(p, n, 0, lists[0][:-1]))
            many = sum(1 for choice in plain_choices(lists) if plain_worth(p, f, choice))
            if many:
                self.assertGreaterEqual(many, least_picks(tuple(map(len, lists)), plain_degree(f)))

    def test_drawn_conditions(self):
        draws = Draws(103)
        for _ in range(60):
            p, n = draws.one_of(FIELDS), draws.between(1, 3)
            lists = draws.lists(p, draws.lengths(p, n, 4))
            lengths = tuple(len(row) for row in lists)
            for d in range(sum(lengths) - n + 2):
                f = fewest_condition(p, lists, d)
                self.assertTrue(is_told_polynomial(p, n, f))
                shape = least_shape(lengths, d)
                parts = [row_product(p, n, at, row[:len(row) - left])
                         for at, (row, left) in enumerate(zip(lists, shape))]
                self.assertEqual(f, multiplied(p, *parts))
                self.assertLessEqual(plain_degree(f), d)
                many = sum(1 for choice in plain_choices(lists) if plain_worth(p, f, choice))
                self.assertEqual(many, least_picks(lengths, d))

    def test_edges(self):
        self.assertEqual(fewest_condition(5, ((0, 1), (1, 2, 4)), 2), (((1, 0), 4), ((1, 1), 1)))
        self.assertEqual(fewest_condition(5, ((0, 1), (1, 2, 4)), 0), (((0, 0), 1),))
        self.assertEqual(fewest_condition(0, ((7,),), 9), (((0,), 1),))
        self.assertEqual(fewest_condition(0, ((3, 7),), 1), (((0,), -3), ((1,), 1)))
        self.assertEqual(fewest_condition(2, ((0, 1),) * 2, 1), (((1, 0), 1),))

    def test_too_many_terms_are_refused(self):
        rows = [tuple(range(1, 1 + length)) for length in range(13)]
        just = tuple(rows[length] for length in (10, 10, 10, 12))
        self.assertEqual(len(fewest_condition(0, just, 29)), 3000)
        for lists, d, count in ((just, 30, 4000), (tuple(rows[length] for length in (12, 3, 12, 7)), 30, 3024),
                                (far_too_many(0), 10 ** 9, 12 ** 10), ((rows[12],) * 4, 44, 12 ** 4)):
            with self.assertRaises(Refused) as caught:
                fewest_condition(0, lists, d)
            self.assertEqual(caught.exception.at, count)
        self.assertEqual(plain_degree(fewest_condition(0, tuple(rows[length] for length in (12, 3, 12, 7)), 29)), 29)

    def test_far_more_choices_than_could_be_gone_through(self):
        self.assertEqual(fewest_condition(13, far_too_many(13), 11), row_product(13, 10, 0, tuple(range(11))))


if __name__ == "__main__":
    unittest.main()
