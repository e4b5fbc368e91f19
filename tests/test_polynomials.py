"""Points [6] and [7]: polynomials and how they are reckoned with."""

import copy
import unittest

from draws import FIELDS, ODD_VALUES, Draws, is_told_polynomial, multiplied, plain_degree, plain_worth, summed, told
from listpicks.errors import InvalidPolynomial
from listpicks.polynomials import (constant, degree, factor_of, is_polynomial, plus, polynomial_of, put_in, scaled,
                                   times, unknown, worth)


class WhatPolynomialsAre(unittest.TestCase):
    def test_good_ones(self):
        for p, n, value in (
                (5, 2, ()), (0, 1, ()), (0, 10, ()),
                (5, 2, (((0, 0), 1),)), (5, 2, (((0, 1), 4), ((1, 0), 1))), (2, 1, (((0,), 1), ((1,), 1), ((40,), 1))),
                (0, 1, (((3,), -7),)), (0, 1, (((0,), 10 ** 29), ((1,), -10 ** 29))), (101, 1, (((0,), 100),)),
                (3, 10, (((0,) * 10, 2), ((40,) * 10, 1)))):
            self.assertIs(is_polynomial(p, n, value), True, value)

    def test_wrong_factors(self):
        for factor in (0, 5, 6, -1, True, False, 1.0, "1", None, (1,), 1j):
            self.assertIs(is_polynomial(5, 1, (((1,), factor),)), False, factor)
        for factor in (0, True, False, 1.0, "1", None):
            self.assertIs(is_polynomial(0, 1, (((1,), factor),)), False, factor)
        self.assertIs(is_polynomial(2, 1, (((1,), 2),)), False)
        self.assertIs(is_polynomial(101, 1, (((1,), 101),)), False)

    def test_wrong_powers(self):
        for powers in ((), (1,), (1, 2, 3), [1, 2], (1, -1), (41, 0), (0, 41), (True, 0), (0, False), (1.0, 0),
                       ("1", 0), (None, 0), "ab", 1, None, ((1, 2),), range(2)):
            self.assertIs(is_polynomial(5, 2, ((powers, 1),)), False, powers)
        self.assertIs(is_polynomial(5, 2, (((40, 40), 1),)), True)

    def test_wrong_terms(self):
        for term in ([(1, 0), 1], ((1, 0),), ((1, 0), 1, 1), (1, (1, 0)), (), None, 5, "ab", ((1, 0), (1,))):
            self.assertIs(is_polynomial(5, 2, (term,)), False, term)
            self.assertIs(is_polynomial(5, 2, (((0, 0), 1), term)), False, term)

    def test_terms_must_ascend(self):
        low, high = ((0, 3), 1), ((1, 0), 1)
        self.assertIs(is_polynomial(5, 2, (low, high)), True)
        self.assertIs(is_polynomial(5, 2, (high, low)), False)
        self.assertIs(is_polynomial(5, 2, (low, low)), False)
        self.assertIs(is_polynomial(5, 2, (((0, 3), 1), ((0, 3), 2))), False)
        self.assertIs(is_polynomial(5, 2, [low, high]), False)
        self.assertIs(is_polynomial(5, 2, (((0, 0), 1), ((2, 0), 1), ((1, 9), 1))), False)

    def test_values_of_every_kind(self):
        for value in ODD_VALUES:
            self.assertIs(is_polynomial(5, 2, value), False, value)

    def test_drawn_ones_are_polynomials(self):
        draws = Draws(1)
        for _ in range(100):
            p, n = draws.one_of(FIELDS), draws.between(1, 4)
            f = draws.polynomial(p, n, draws.between(0, 8), 6)
            self.assertIs(is_polynomial(p, n, f), True)
            self.assertIs(is_polynomial(p, n + 1, f), f == ())
            if len(f) > 1:
                self.assertIs(is_polynomial(p, n, f[::-1]), False)


class PolynomialsMade(unittest.TestCase):
    def test_sums_of_terms(self):
        self.assertEqual(polynomial_of(5, 2, [((1, 0), 1), ((0, 1), -1)]), (((0, 1), 4), ((1, 0), 1)))
        self.assertEqual(polynomial_of(5, 2, ()), ())
        self.assertEqual(polynomial_of(5, 2, []), ())
        self.assertEqual(polynomial_of(5, 1, [((1,), 2), ((1,), 3)]), ())
        self.assertEqual(polynomial_of(0, 1, [((1,), 2), ((1,), 3), ((0,), 0)]), (((1,), 5),))
        self.assertEqual(polynomial_of(0, 1, (([2], 10 ** 29), ((2,), -10 ** 29), ([40], -1))), (((40,), -1),))
        self.assertEqual(polynomial_of(2, 2, [([0, 1], 7), ((1, 0), -4)]), (((0, 1), 1),))

    def test_drawn_sums(self):
        draws = Draws(2)
        for _ in range(100):
            p, n = draws.one_of(FIELDS), draws.between(1, 3)
            terms, totals = [], {}
            for _ in range(draws.between(0, 12)):
                powers = [draws.between(0, 2) for _ in range(n)]
                factor = draws.between(-200, 200)
                terms.append((draws.one_of((list, tuple))(powers), factor))
                totals[tuple(powers)] = totals.get(tuple(powers), 0) + factor
            found = polynomial_of(p, n, draws.one_of((list, tuple))(terms))
            self.assertEqual(found, told(p, totals))
            self.assertTrue(is_told_polynomial(p, n, found))

    def test_the_first_wrong_term_is_told(self):
        good = ((1, 0), 3)
        for wrong in (None, 3, "ab", (), ((1, 0),), ((1, 0), 1, 1), [(1, 0), 1], ((1,), 1), ((1, 0, 0), 1), ((1, 41), 1),
                      ((-1, 0), 1), ((True, 0), 1), ((1, 0), True), ((1, 0), False), ((1, 0), 1.0), ((1, 0), None),
                      ((1, 0), "1"), ("10", 1), (b"ab", 1), ({0: 1, 1: 1}, 1), (range(2), 1), ((1.0, 0), 1),
                      (((1, 0),), 1), {0: (1, 0), 1: 1}):
            for ahead in range(3):
                for terms in ([good] * ahead + [wrong, good, None], tuple([good] * ahead + [wrong])):
                    with self.assertRaises(InvalidPolynomial) as caught:
                        polynomial_of(5, 2, terms)
                    self.assertEqual(caught.exception.at, ahead, wrong)

    def test_what_is_no_sequence(self):
        for terms in (None, 5, True, "", "ab", b"", {}, {((1, 0), 3): 1}, set(), iter([]), range(0), 1.5, object()):
            with self.assertRaises(InvalidPolynomial) as caught:
                polynomial_of(5, 2, terms)
            self.assertEqual(caught.exception.at, 0)

    def test_arguments_stay(self):
        terms = [([1, 0], 1), ([0, 1], -1), ([0, 1], 1)]
        before = copy.deepcopy(terms)
        found = polynomial_of(5, 2, terms)
        self.assertEqual(terms, before)
        terms[0][0][0] = 9
        terms.clear()
        self.assertEqual(found, (((1, 0), 1),))

    def test_degree_and_factor(self):
        f = (((0, 0), 3), ((1, 4), 2), ((3, 1), 1))
        self.assertEqual((degree(f), degree(()), degree((((0, 0), 1),)), degree(f[:1] + f[2:])), (5, -1, 0, 4))
        self.assertEqual([factor_of(f, powers) for powers in ((0, 0), (1, 4), (3, 1), (4, 1), (9, 9))], [3, 2, 1, 0, 0])
        self.assertEqual(factor_of((), (1,)), 0)
        self.assertEqual(factor_of((((2,), -8),), (2,)), -8)


class Reckoning(unittest.TestCase):
    def test_drawn_sums_and_products(self):
        draws = Draws(3)
        for _ in range(200):
            p, n = draws.one_of(FIELDS), draws.between(1, 4)
            f = draws.polynomial(p, n, draws.between(0, 7), draws.one_of((1, 3, 20)))
            g = draws.polynomial(p, n, draws.between(0, 7), draws.one_of((1, 3, 20)))
            self.assertEqual(plus(p, f, g), summed(p, f, g))
            self.assertEqual(plus(p, g, f), plus(p, f, g))
            product = times(p, f, g)
            self.assertEqual(product, multiplied(p, f, g))
            if f and g:
                self.assertEqual(degree(product), plain_degree(f) + plain_degree(g))
            else:
                self.assertEqual(product, ())
            for one in (plus(p, f, g), product):
                self.assertTrue(is_told_polynomial(p, n, one))

    def test_sums_that_vanish(self):
        f = (((0, 1), 4), ((1, 0), 1))
        self.assertEqual(plus(5, f, (((0, 1), 1), ((1, 0), 4))), ())
        self.assertEqual(plus(5, f, (((0, 1), 1),)), (((1, 0), 1),))
        self.assertEqual(plus(0, (((1,), 2),), (((1,), -2),)), ())
        self.assertEqual(plus(2, (((1,), 1),), (((1,), 1),)), ())
        self.assertEqual((plus(5, (), f), plus(5, f, ()), plus(5, (), ())), (f, f, ()))

    def test_products_that_lose_terms(self):
        self.assertEqual(times(0, (((0,), -1), ((1,), 1)), (((0,), 1), ((1,), 1))), (((0,), -1), ((2,), 1)))
        self.assertEqual(times(2, (((0,), 1), ((1,), 1)), (((0,), 1), ((1,), 1))), (((0,), 1), ((2,), 1)))
        self.assertEqual((times(5, (), ()), times(5, (((1,), 1),), ())), ((), ()))
        self.assertEqual(times(0, (((40, 0), 2),), (((40, 40), 3),)), (((80, 40), 6),))

    def test_large_products(self):
        dense = tuple(((a, b), 1) for a in range(40) for b in range(40))
        found = times(101, dense, dense)
        self.assertEqual(len(found), 79 * 79 - sum(1 for a in range(79) for b in range(79)
                                                   if min(a + 1, 79 - a) * min(b + 1, 79 - b) % 101 == 0))
        self.assertEqual(factor_of(found, (39, 39)), 1600 % 101)

    def test_scaled(self):
        draws = Draws(4)
        for _ in range(100):
            p, n = draws.one_of(FIELDS), draws.between(1, 3)
            f = draws.polynomial(p, n, draws.between(0, 6), 4)
            factor = draws.element(p)
            found = scaled(p, f, factor)
            self.assertEqual(found, told(p, {powers: share * factor for powers, share in f}))
            self.assertTrue(is_told_polynomial(p, n, found))
        self.assertEqual((scaled(5, (((1,), 3),), 0), scaled(0, (((1,), 3),), 0), scaled(5, (((1,), 3),), 2)),
                         ((), (), (((1,), 1),)))

    def test_constant_and_unknown(self):
        self.assertEqual((constant(5, 3, 4), constant(5, 2, 0), constant(0, 1, -6), constant(0, 10, 0)),
                         ((((0, 0, 0), 4),), (), (((0,), -6),), ()))
        self.assertEqual([unknown(2, 3, at) for at in range(3)],
                         [(((1, 0, 0), 1),), (((0, 1, 0), 1),), (((0, 0, 1), 1),)])
        self.assertEqual(unknown(0, 1, 0), (((1,), 1),))
        self.assertEqual(unknown(101, 10, 9), (((0,) * 9 + (1,), 1),))

    def test_drawn_worths(self):
        draws = Draws(6)
        for _ in range(300):
            p, n = draws.one_of(FIELDS), draws.between(1, 5)
            f = draws.polynomial(p, n, draws.between(0, 8), draws.one_of((1, 2, 40)))
            g = draws.polynomial(p, n, draws.between(0, 4), 3)
            choice = tuple(draws.element(p) for _ in range(n))
            found = worth(p, f, choice)
            self.assertEqual(found, plain_worth(p, f, choice))
            total, product = found + worth(p, g, choice), found * worth(p, g, choice)
            self.assertEqual(worth(p, plus(p, f, g), choice), total % p if p else total)
            self.assertEqual(worth(p, times(p, f, g), choice), product % p if p else product)

    def test_the_power_0_of_0_is_1(self):
        self.assertEqual(worth(5, (((0,), 3),), (0,)), 3)
        self.assertEqual(worth(0, (((0, 0), 3), ((0, 1), 5), ((2, 0), 7)), (0, 0)), 3)
        self.assertEqual(worth(2, (((0, 1), 1),), (0, 1)), 1)
        self.assertEqual(worth(0, (), (4, 4)), 0)
        self.assertEqual(put_in(0, (((0, 2), 3), ((1, 2), 5)), 0, 0), (((0, 2), 3),))

    def test_great_worths(self):
        self.assertEqual(worth(0, (((40,), 10 ** 29),), (-10 ** 30,)), 10 ** 1229)
        self.assertEqual(worth(0, (((39,), 1),), (-10 ** 30,)), -10 ** 1170)
        self.assertEqual(worth(101, (((40,) * 10, 1),), (100,) * 10), 1)

    def test_drawn_elements_put_in(self):
        draws = Draws(7)
        for _ in range(200):
            p, n = draws.one_of(FIELDS), draws.between(1, 4)
            f = draws.polynomial(p, n, draws.between(0, 9), draws.one_of((1, 2, 6)))
            at, one = draws.below(n), draws.element(p)
            totals = {}
            for powers, factor in f:
                key = powers[:at] + (0,) + powers[at + 1:]
                totals[key] = totals.get(key, 0) + factor * one ** powers[at]
            found = put_in(p, f, at, one)
            self.assertEqual(found, told(p, totals))
            self.assertTrue(is_told_polynomial(p, n, found))
            choice = [draws.element(p) for _ in range(n)]
            before = worth(p, found, tuple(choice))
            choice[at] = one
            self.assertEqual((before, worth(p, f, tuple(choice))), (plain_worth(p, f, choice),) * 2)

    def test_put_in_that_vanishes(self):
        self.assertEqual(put_in(5, (((0, 1), 4), ((1, 0), 1)), 0, 0), (((0, 1), 4),))
        self.assertEqual(put_in(5, (((0,), 4), ((1,), 1)), 0, 1), ())
        self.assertEqual(put_in(5, (), 0, 1), ())


if __name__ == "__main__":
    unittest.main()
