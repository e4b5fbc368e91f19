"""Point [65]: who touches whom, and orders in which few unknowns are reached at a time."""

import unittest
from itertools import combinations, permutations

from draws import FIELDS, Draws, only_tuples
from listpicks.touching import best_order, least_width, reach_along, touched, width_along
from plain_links import (drawn_factors, drawn_order, less, plain_least_width, plain_reach, plain_touched, plain_width,
                         tie_factors)
from plain_webs import LARGEST, complete, ring

RING = tie_factors(0, 4, ((0, 1), (1, 2), (2, 3), (0, 3)))


class Touched(unittest.TestCase):
    def test_drawn_ones(self):
        draws = Draws(451)
        for _ in range(100):
            p, n = draws.one_of(FIELDS), draws.between(1, 6)
            for factor in drawn_factors(draws, p, n):
                found = touched(factor)
                self.assertEqual(found, plain_touched(factor, n))
                self.assertTrue(only_tuples(found))

    def test_edges(self):
        self.assertEqual((touched(()), touched((((0, 0), 3),)), touched((((0,), 1), ((40,), 2)))), ((), (), (0,)))
        self.assertEqual(touched(less(0, 4, 0, 3)), (0, 3))
        self.assertEqual(touched((((0, 0, 1), 1), ((1, 0, 0), 1))), (0, 2))
        self.assertEqual(touched((((1,) * 10, 1),)), tuple(range(10)))


class Orders(unittest.TestCase):
    def test_drawn_orders(self):
        draws = Draws(452)
        for _ in range(200):
            p, n = draws.one_of(FIELDS), draws.between(1, 6)
            factors = drawn_factors(draws, p, n, 6)
            order = drawn_order(draws, n)
            found = reach_along(n, factors, order)
            self.assertEqual(found, plain_reach(n, factors, order))
            self.assertTrue(only_tuples(found))
            self.assertEqual(width_along(n, factors, order), plain_width(n, factors, order))

    def test_all_orders_of_few_unknowns(self):
        draws = Draws(453)
        for _ in range(40):
            n = draws.between(1, 5)
            factors = drawn_factors(draws, 5, n, 5)
            widths = {order: width_along(n, factors, order) for order in permutations(range(n))}
            self.assertEqual(least_width(n, factors), min(widths.values()))
            self.assertEqual(widths[best_order(n, factors)], min(widths.values()))
            self.assertTrue(only_tuples(best_order(n, factors)))

    def test_more_factors_never_make_it_less(self):
        draws = Draws(454)
        for _ in range(40):
            n = draws.between(2, 8)
            factors = drawn_factors(draws, 3, n, 6)
            widths = [least_width(n, factors[:many]) for many in range(len(factors) + 1)]
            self.assertEqual(widths, sorted(widths))
            self.assertEqual(widths[0], 0)

    def test_edges(self):
        self.assertEqual(reach_along(1, (), (0,)), ((),))
        self.assertEqual((width_along(1, (), (0,)), least_width(1, ()), best_order(1, ())), (0, 0, (0,)))
        self.assertEqual(reach_along(3, ((), (((0, 0, 0), 5),)), (2, 0, 1)), ((), (), ()))
        self.assertEqual(reach_along(4, RING, (0, 1, 2, 3)), ((1, 3), (2, 3), (3,), ()))
        self.assertEqual(reach_along(4, RING, (0, 2, 1, 3)), ((1, 3), (1, 3), (3,), ()))
        self.assertEqual((width_along(4, RING, (1, 0, 2, 3)), least_width(4, RING), least_width(4, RING[:3])),
                         (2, 2, 1))
        # A factor that touches all unknowns links any two of them.
        for n in range(1, 11):
            whole = ((((1,) * n, 1),),)
            self.assertEqual(least_width(n, whole), n - 1)
            order = tuple(range(n))[::-1]
            self.assertEqual(reach_along(n, whole, order), tuple(tuple(range(at)) for at in order))
            self.assertEqual(least_width(n, tie_factors(0, n, combinations(range(n), 2))), n - 1)
            self.assertEqual(least_width(n, tie_factors(0, n, [(at, at + 1) for at in range(n - 1)])), min(n - 1, 1))
            self.assertEqual(least_width(n, ()), 0)
            if n > 2:
                self.assertEqual(least_width(n, tie_factors(0, n, ring(n)[1])), 2)

    def test_paths_over_unknowns_ahead_only(self):
        path = tie_factors(0, 5, ((0, 1), (1, 2), (2, 3), (3, 4)))
        self.assertEqual(reach_along(5, path, (1, 2, 3, 0, 4)), ((0, 2), (0, 3), (0, 4), (4,), ()))
        self.assertEqual(reach_along(5, path, (4, 3, 2, 1, 0)), ((3,), (2,), (1,), (0,), ()))
        self.assertEqual(reach_along(5, path, (2, 0, 4, 1, 3)), ((1, 3), (1,), (3,), (3,), ()))

    def test_ten_unknowns(self):
        draws = Draws(455)
        for n, ties in (LARGEST, ring(10), (10, complete(6)[1])):
            factors = tie_factors(7, n, ties)
            order = best_order(n, factors)
            self.assertEqual(sorted(order), list(range(10)))
            self.assertEqual(plain_width(n, factors, order), least_width(n, factors))
            for _ in range(30):
                self.assertGreaterEqual(plain_width(n, factors, drawn_order(draws, n)), least_width(n, factors))
        self.assertEqual(least_width(10, tie_factors(7, 10, complete(6)[1])), 5)
        # A tree: no links form a ring.
        for _ in range(10):
            tree = [(draws.below(at), at) for at in range(1, 10)]
            self.assertEqual(least_width(10, tie_factors(7, 10, tree)), 1)

    def test_best_orders_of_six(self):
        draws = Draws(456)
        for _ in range(2):
            factors = tie_factors(3, 6, [pair for pair in combinations(range(6), 2) if draws.below(2)])
            self.assertEqual(least_width(6, factors), plain_least_width(6, factors))


if __name__ == "__main__":
    unittest.main()
