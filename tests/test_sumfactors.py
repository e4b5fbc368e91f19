"""Points [35] and [37]: the factors that make sums many."""

import unittest

from draws import FIELDS, Draws, multiplied, number_polynomial, row_product, told
from listpicks.sumfactors import sums_factor, unlike_factor
from listpicks.unlike import unlike_lengths


def one_unknown(n, at):
    return tuple(int(k == at) for k in range(n))


def power_of_sum(n, many):
    total = told(0, {one_unknown(n, at): 1 for at in range(n)})
    found = number_polynomial(0, n, 1)
    for _ in range(many):
        found = multiplied(0, found, total)
    return found


def all_differences(n):
    found = number_polynomial(0, n, 1)
    for at in range(n):
        for ahead in range(at):
            found = multiplied(0, found, told(0, {one_unknown(n, at): 1, one_unknown(n, ahead): -1}))
    return found


def factor_in(polynomial, lengths):
    return dict(polynomial).get(tuple(length - 1 for length in lengths), 0)


class SumsFactor(unittest.TestCase):
    def test_multiplied_out(self):
        draws = Draws(251)
        seen = {True: 0, False: 0}
        for _ in range(150):
            p, n = draws.one_of(FIELDS), draws.between(1, 4)
            lengths = draws.lengths(p, n, 4)
            d = sum(lengths) - n
            wanted = factor_in(power_of_sum(n, d), lengths)
            found = sums_factor(p, lengths)
            self.assertIs(type(found), int)
            self.assertEqual(found, wanted % p if p else wanted)
            # The fact: over p from 2 on it is 0 exactly if p is at most D.
            self.assertIs(found == 0, 0 < p <= d)
            seen[found == 0] += 1
        self.assertGreater(min(seen.values()), 20)

    def test_the_product_over_any_elements_has_the_same(self):
        draws = Draws(252)
        for _ in range(40):
            p = draws.one_of((0, 7, 11, 101))
            lengths = draws.lengths(p, 2, 4)
            found = number_polynomial(p, 2, 1)
            for _ in range(sum(lengths) - 2):
                c = draws.element(p)
                found = multiplied(p, found, told(p, {(1, 0): 1, (0, 1): 1, (0, 0): -c}))
            self.assertEqual(factor_in(found, lengths), sums_factor(p, lengths))

    def test_edges(self):
        self.assertEqual((sums_factor(7, (3, 2)), sums_factor(3, (3, 2)), sums_factor(0, (3, 2))), (3, 0, 3))
        self.assertEqual((sums_factor(0, (1,)), sums_factor(2, (1, 1)), sums_factor(5, (5,)), sums_factor(2, (2, 2))),
                         (1, 1, 1, 0))
        # 110 things put into ten boxes of 11 each, one box after another.
        wanted = 1
        for at in range(1, 11):
            for k in range(11):
                wanted = wanted * (11 * at - k)
            for k in range(1, 12):
                wanted = wanted // k
        self.assertEqual(sums_factor(0, (12,) * 10), wanted)
        self.assertEqual(sums_factor(101, (12,) * 10), 0)
        self.assertEqual(sums_factor(101, (11,) * 10), sums_factor(0, (11,) * 10) % 101)


class UnlikeFactor(unittest.TestCase):
    def test_multiplied_out(self):
        draws = Draws(253)
        seen = {True: 0, False: 0}
        below = 0
        for _ in range(200):
            p, n = draws.one_of(FIELDS), draws.between(1, 4)
            lengths = draws.lengths(p, n, 5)
            m = sum(lengths) - n - n * (n - 1) // 2
            found = unlike_factor(p, lengths)
            self.assertIs(type(found), int)
            if m < 0:
                self.assertEqual(found, 0)
                below += 1
                continue
            wanted = factor_in(multiplied(0, all_differences(n), power_of_sum(n, m)), lengths)
            self.assertEqual(found, wanted % p if p else wanted)
            seen[found == 0] += 1
            # The fact: for unlike lengths up to p it isn't 0 over p if m is below p.
            if len(set(lengths)) == n and (m < p or p == 0):
                self.assertNotEqual(found, 0)
        self.assertGreater(min(seen.values()), 20)
        self.assertGreater(below, 20)

    def test_signs_and_edges(self):
        self.assertEqual(unlike_factor(11, (1, 3)), 1)
        self.assertEqual((unlike_factor(0, (1, 2)), unlike_factor(0, (2, 1)), unlike_factor(3, (2, 1))), (1, -1, 2))
        self.assertEqual((unlike_factor(0, (4,)), unlike_factor(5, (1,)), unlike_factor(0, (2, 2))), (1, 1, 0))
        self.assertEqual((unlike_factor(0, (1, 1)), unlike_factor(0, (1, 1, 1)), unlike_factor(7, (2, 1, 1))), (0, 0, 0))
        self.assertEqual(unlike_factor(0, (3, 1)), -1)
        self.assertEqual(unlike_factor(0, (1, 2, 3)), 1)
        # m is 55, the greatest one for lengths up to 12 that are all unlike.
        lengths = unlike_lengths((12,) * 10)
        self.assertNotEqual(unlike_factor(101, lengths), 0)
        self.assertEqual(unlike_factor(101, lengths), unlike_factor(0, lengths) % 101)

    def test_an_outside_sum_by_the_factor(self):
        # With m elements c the product of differences and of (the sum less c) has this factor, whatever c are.
        draws = Draws(254)
        for _ in range(30):
            p = draws.one_of((0, 7, 11))
            lengths = draws.one_of(((1, 3), (2, 4), (3, 1), (4, 2), (2, 3)))
            found = told(p, {(0, 1): 1, (1, 0): -1})
            for _ in range(sum(lengths) - 3):
                c = draws.element(p)
                found = multiplied(p, found, told(p, {(1, 0): 1, (0, 1): 1, (0, 0): -c}))
            self.assertEqual(factor_in(found, lengths), unlike_factor(p, lengths))
        self.assertEqual(factor_in(row_product(5, 1, 0, (1, 2, 3)), (4,)), unlike_factor(5, (4,)))


if __name__ == "__main__":
    unittest.main()
