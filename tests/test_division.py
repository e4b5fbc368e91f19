"""Points [10] and [11]: polynomials divided by lists."""

import unittest
from itertools import permutations

from draws import (FIELDS, Draws, far_too_many, is_told_polynomial, multiplied, only_tuples, plain_degree, plain_table,
                   row_product, summed)
from listpicks.division import are_alike, divided, divided_by, least_form
from listpicks.polynomials import put_in


class DividedByAList(unittest.TestCase):
    def check(self, p, n, f, at, row):
        found = divided_by(p, f, at, row)
        self.assertIs(type(found), tuple)
        quotient, rest = found
        self.assertTrue(is_told_polynomial(p, n, quotient) and is_told_polynomial(p, n, rest))
        product = multiplied(p, quotient, row_product(p, n, at, row))
        self.assertEqual(summed(p, product, rest), f)
        self.assertTrue(all(powers[at] < len(row) for powers, _ in rest))
        self.assertLessEqual(max(plain_degree(product), plain_degree(rest)), plain_degree(f))
        if len(row) == 1:
            self.assertEqual(rest, put_in(p, f, at, row[0]))

    def test_drawn_divisions(self):
        draws = Draws(21)
        for _ in range(200):
            p, n = draws.one_of(FIELDS), draws.between(1, 4)
            f = draws.polynomial(p, n, draws.between(0, 8), draws.one_of((1, 4, 12)))
            self.check(p, n, f, draws.below(n), draws.row(p, draws.lengths(p, 1, 5)[0]))

    def test_high_powers_and_long_lists(self):
        draws = Draws(22)
        for p in (0, 13, 101):
            row = draws.row(p, 12)
            self.check(p, 1, (((40,), 1),), 0, row)
            self.check(p, 10, (((3,) * 9 + (40,), 1), ((4,) * 10, 1)), 9, row)

    def test_edges(self):
        self.assertEqual(divided_by(5, (((0, 1), 2), ((2, 0), 1)), 0, (1, 3)),
                         ((((0, 0), 1),), (((0, 0), 2), ((0, 1), 2), ((1, 0), 4))))
        self.assertEqual(divided_by(5, (), 0, (1, 3)), ((), ()))
        self.assertEqual(divided_by(5, (((0,), 2), ((1,), 1)), 0, (1, 3)), ((), (((0,), 2), ((1,), 1))))
        self.assertEqual(divided_by(0, (((2,), 1),), 0, (-3,)), ((((0,), -3), ((1,), 1)), (((0,), 9),)))
        self.assertEqual(divided_by(2, (((2,), 1),), 0, (0, 1)), ((((0,), 1),), (((1,), 1),)))
        self.assertEqual(divided_by(5, row_product(5, 2, 1, (0, 2)), 1, (0, 2)), ((((0, 0), 1),), ()))


class DividedByAll(unittest.TestCase):
    def test_drawn_divisions(self):
        draws = Draws(23)
        for _ in range(150):
            p, n = draws.one_of(FIELDS), draws.between(1, 4)
            lists = draws.lists(p, draws.lengths(p, n, 4))
            f = draws.polynomial(p, n, draws.between(0, 7), draws.one_of((1, 3, 7)))
            quotients, rest = divided(p, f, lists)
            self.assertTrue(only_tuples((quotients, rest)))
            left = f
            for at, row in enumerate(lists):
                quotient, left = divided_by(p, left, at, row)
                self.assertEqual(quotients[at], quotient)
            self.assertEqual((len(quotients), rest), (n, left))
            products = [multiplied(p, quotient, row_product(p, n, at, lists[at]))
                        for at, quotient in enumerate(quotients)]
            self.assertEqual(summed(p, rest, *products), f)
            self.assertTrue(all(power < len(row) for powers, _ in rest for power, row in zip(powers, lists)))
            self.assertEqual(plain_table(p, rest, lists), plain_table(p, f, lists))
            self.assertEqual(least_form(p, f, lists), rest)

    def test_the_rest_is_the_same_whichever_list_is_first(self):
        draws = Draws(24)
        for _ in range(40):
            p = draws.one_of(FIELDS)
            lists = draws.lists(p, draws.lengths(p, 3, 4))
            f = draws.polynomial(p, 3, 6, 6)
            for order in permutations(range(3)):
                left = f
                for at in order:
                    left = divided_by(p, left, at, lists[at])[1]
                self.assertEqual(left, least_form(p, f, lists))

    def test_the_first_list_is_divided_by_first(self):
        f = (((2, 2), 1),)
        quotients, rest = divided(0, f, ((0, 1), (0, 1)))
        self.assertEqual(quotients, ((((0, 2), 1),), (((1, 0), 1),)))
        self.assertEqual(rest, (((1, 1), 1),))

    def test_edges(self):
        f = (((0, 1), 2), ((2, 0), 1))
        self.assertEqual(divided(5, f, ((1, 3), (0, 2)))[1], (((0, 0), 2), ((0, 1), 2), ((1, 0), 4)))
        self.assertEqual(least_form(5, f, ((1, 3), (4,))), (((1, 0), 4),))
        self.assertEqual(divided(5, (), ((1, 3), (4,))), (((), ()), ()))
        self.assertEqual(least_form(5, (), ((1, 3), (4,))), ())
        self.assertEqual(least_form(0, (((3, 2), 5),), ((-2,), (7,))), (((0, 0), -8 * 49 * 5),))
        self.assertEqual(least_form(0, (((40,) * 10, 1),), ((1,),) * 10), (((0,) * 10, 1),))


class Alike(unittest.TestCase):
    def test_drawn_pairs(self):
        draws = Draws(25)
        seen = {True: 0, False: 0}
        for _ in range(300):
            p, n = draws.one_of(FIELDS), draws.between(1, 3)
            lists = draws.lists(p, draws.lengths(p, n, 3))
            f = draws.polynomial(p, n, draws.between(0, 4), 3)
            g = draws.polynomial(p, n, draws.between(0, 4), 3)
            if draws.below(2):
                at = draws.below(n)
                g = summed(p, f, multiplied(p, g, row_product(p, n, at, lists[at])))
            wanted = plain_table(p, f, lists) == plain_table(p, g, lists)
            self.assertIs(are_alike(p, f, g, lists), wanted)
            self.assertIs(least_form(p, f, lists) == least_form(p, g, lists), wanted)
            seen[wanted] += 1
        self.assertGreater(min(seen.values()), 50)

    def test_edges(self):
        self.assertIs(are_alike(2, (((2,), 1),), (((1,), 1),), ((0, 1),)), True)
        self.assertIs(are_alike(0, (((2,), 1),), (((1,), 1),), ((0, 1, 2),)), False)
        self.assertIs(are_alike(5, (), (), ((1,),)), True)
        self.assertIs(are_alike(5, (), (((0,), 1),), ((1,),)), False)
        self.assertIs(are_alike(5, (((1,), 1),), (((0,), 3),), ((3,),)), True)

    def test_nothing_is_gone_through(self):
        for p in (0, 13, 101):
            lists, n = far_too_many(p), 10
            f = (((0,) * 10, 1), ((1,) * 10, 1))
            g = summed(p, f, row_product(p, n, 3, lists[3]), row_product(p, n, 9, lists[9]))
            self.assertIs(are_alike(p, f, g, lists), True)
            self.assertIs(are_alike(p, f, summed(p, g, (((11,) * 10, 1),)), lists), False)
            self.assertEqual(least_form(p, g, lists), f)


if __name__ == "__main__":
    unittest.main()
