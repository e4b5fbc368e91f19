"""Points [34] and [35]: what choices add up to."""

import unittest
from itertools import product

from draws import FIELDS, JUST_SO_MANY, MORE, MORE_COUNT, Draws, far_too_many, only_tuples, plain_choices
from listpicks.sums import fewest_sums, least_sum_lists, sum_choice, sum_outside, sums
from refusing import assert_refused


def plain_sum(p, choice):
    return sum(choice) % p if p else sum(choice)


def plain_sums(p, lists):
    return tuple(sorted({plain_sum(p, choice) for choice in plain_choices(lists)}))


def drawn_lists(draws, most=4):
    p, n = draws.one_of(FIELDS), draws.between(1, 4)
    return p, draws.lists(p, draws.lengths(p, n, most))


class Sums(unittest.TestCase):
    def assert_choice(self, p, lists, choice, total):
        self.assertTrue(only_tuples(choice))
        self.assertEqual(len(choice), len(lists))
        self.assertTrue(all(one in row for one, row in zip(choice, lists)))
        self.assertEqual(plain_sum(p, choice), total)

    def test_drawn_lists(self):
        draws = Draws(231)
        lacking = 0
        for _ in range(200):
            p, lists = drawn_lists(draws)
            wanted = plain_sums(p, lists)
            found = sums(p, lists)
            self.assertEqual(found, wanted)
            self.assertTrue(only_tuples(found))
            for total in range(p) if p else range(min(found) - 2, max(found) + 3):
                choice = sum_choice(p, lists, total)
                if total in wanted:
                    self.assert_choice(p, lists, choice, total)
                else:
                    self.assertIs(choice, None)
                    lacking += 1
        self.assertGreater(lacking, 50)

    def test_edges(self):
        self.assertEqual(sums(7, ((0, 1, 3), (2, 5))), (1, 2, 3, 5, 6))
        self.assertEqual(sum_choice(7, ((0, 1, 3), (2, 5)), 6), (1, 5))
        self.assertEqual(sums(5, ((3,),)), (3,))
        self.assertEqual(sums(0, ((-10 ** 29,), (1, 2))), (1 - 10 ** 29, 2 - 10 ** 29))
        self.assertEqual(sum_choice(0, ((-3,), (-4,)), -7), (-3, -4))
        self.assertIs(sum_choice(0, ((-3,), (-4,)), 7), None)
        self.assertEqual(sums(2, ((1,),) * 10), (0,))
        self.assertEqual(sums(2, ((0, 1), (1,))), (0, 1))

    def test_over_0_too_many_choices_are_refused(self):
        assert_refused(self, MORE_COUNT, lambda: sums(0, MORE), lambda: sum_choice(0, MORE, 3),
                       lambda: sum_choice(0, MORE, -1), lambda: sum_outside(0, MORE, ()))
        assert_refused(self, 12 ** 10, lambda: sums(0, far_too_many(0)), lambda: sum_choice(0, far_too_many(0), 45),
                       lambda: sum_outside(0, far_too_many(0), (1, 2)))

    def test_over_0_just_so_many(self):
        self.assertEqual(sums(0, JUST_SO_MANY), tuple(range(38)))
        self.assert_choice(0, JUST_SO_MANY, sum_choice(0, JUST_SO_MANY, 36), 36)
        self.assertEqual(sum_outside(0, JUST_SO_MANY, tuple(range(37))), (9, 9, 9, 9, 1))
        # Sums that are all unlike: as many as there are choices.
        rows = tuple(tuple(one * 10 ** at for one in range(10)) for at in range(4)) + ((0, 10 ** 4),)
        self.assertEqual(sums(0, rows), tuple(range(20000)))
        self.assertEqual(sum_choice(0, rows, 13579), (9, 70, 500, 3000, 10000))
        self.assertEqual(sum_outside(0, rows, tuple(range(12345)) + tuple(range(12346, 20000))), (5, 40, 300, 2000, 10000))

    def test_over_other_fields_any_number_of_choices(self):
        for p in (13, 101):
            lists = far_too_many(p)
            many = min(p, 111)
            self.assertEqual(sums(p, lists), tuple(range(many)))
            for total in (0, 7, p - 1):
                self.assert_choice(p, lists, sum_choice(p, lists, total), total)
            choice = sum_outside(p, lists, tuple(range(1, p)))
            self.assert_choice(p, lists, choice, 0)
            self.assertIs(sum_outside(p, lists, tuple(range(p))), None)
        lists = ((0, 50),) * 10
        self.assertEqual(sums(101, lists), plain_sums(101, lists))
        self.assertEqual(sums(13, MORE), tuple(range(13)))


class FewSums(unittest.TestCase):
    def test_never_fewer_and_some_just_so_many(self):
        draws = Draws(232)
        for _ in range(200):
            p, lists = drawn_lists(draws)
            lengths = tuple(len(row) for row in lists)
            fewest = fewest_sums(p, lengths)
            d = sum(lengths) - len(lengths)
            self.assertEqual(fewest, min(d + 1, p) if p else d + 1)
            self.assertGreaterEqual(len(plain_sums(p, lists)), fewest)
            least = least_sum_lists(lengths)
            self.assertEqual(least, tuple(tuple(range(length)) for length in lengths))
            self.assertEqual(len(plain_sums(p, least)), fewest)

    def test_edges(self):
        self.assertEqual((fewest_sums(7, (3, 2)), least_sum_lists((3, 2))), (4, ((0, 1, 2), (0, 1))))
        self.assertEqual((fewest_sums(0, (1,)), fewest_sums(2, (1, 1)), least_sum_lists((1,))), (1, 1, ((0,),)))
        self.assertEqual([fewest_sums(p, (3, 3, 2)) for p in (0, 3, 5, 7, 101)], [6, 3, 5, 6, 6])
        self.assertEqual((fewest_sums(0, (12,) * 10), fewest_sums(101, (12,) * 10), fewest_sums(13, (12,) * 10)),
                         (111, 101, 13))


class Outside(unittest.TestCase):
    def test_drawn_ones(self):
        draws = Draws(233)
        seen = {True: 0, False: 0}
        for _ in range(300):
            p, lists = drawn_lists(draws, 3)
            told = plain_sums(p, lists)
            barred = tuple(one for one in told if draws.below(6))
            if draws.below(2):
                barred = barred + tuple(draws.element(p) for _ in range(3)) + barred[:1]
            found = sum_outside(p, lists, barred)
            seen[found is None] += 1
            if set(told) <= set(barred):
                self.assertIs(found, None)
            else:
                self.assertTrue(all(one in row for one, row in zip(found, lists)))
                self.assertNotIn(plain_sum(p, found), barred)
        self.assertGreater(min(seen.values()), 50)

    def test_fewer_than_fewest_sums_never_bar_all(self):
        for p, lists in ((5, ((0, 1, 2), (0, 1))), (3, ((0, 1), (1, 2))), (7, ((0, 1, 3), (2, 5)))):
            many = fewest_sums(p, tuple(len(row) for row in lists)) - 1
            for barred in product(range(p), repeat=many):
                self.assertIsNot(sum_outside(p, lists, barred), None)

    def test_edges(self):
        self.assertEqual(sum_outside(5, ((0, 1, 2), (0, 1)), (0, 1, 2)), (2, 1))
        self.assertIs(sum_outside(5, ((0, 1, 2), (0, 1)), (0, 1, 2, 3)), None)
        self.assertEqual(sum_outside(5, ((4,), (3,)), ()), (4, 3))
        self.assertIs(sum_outside(5, ((4,), (3,)), (2, 2)), None)
        self.assertEqual(sum_outside(0, ((4,), (3,)), (2,)), (4, 3))


if __name__ == "__main__":
    unittest.main()
