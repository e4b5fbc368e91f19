"""Point [66]: one factor of a product, found by pieces along an order."""

import unittest

from draws import FIELDS, Draws, multiplied, number_polynomial, only_tuples, plain_degree, told
from listpicks.leading import sure_choice
from listpicks.pieces import factor_along, piece_sizes
from listpicks.polynomials import factor_of
from listpicks.surelists import is_sure
from listpicks.touching import best_order, reach_along
from listpicks.webs import web_polynomial
from plain_links import drawn_factors, drawn_order, less, plain_touched, tie_factors
from plain_webs import LARGEST, RING

RING_FACTORS = tie_factors(0, 4, ((0, 1), (1, 2), (2, 3), (0, 3)))
LARGE_POWERS = (3, 1, 2, 1, 2, 1, 2, 2, 1, 1)


def whole(p, n, factors):
    return multiplied(p, number_polynomial(p, n, 1), *factors)


def plain_pieces(p, n, factors, powers, order):
    """The pieces, multiplied out as [66] tells it."""
    left = list(factors)
    found = []
    for at in order:
        taken = [one for one in left if at in plain_touched(one, n)]
        left = [one for one in left if at not in plain_touched(one, n)]
        terms = {}
        for one, factor in whole(p, n, taken):
            others = [k for k in range(n) if k != at]
            if one[at] == powers[at] and all(one[k] <= powers[k] for k in others):
                terms[one[:at] + (0,) + one[at + 1:]] = factor
        found.append(told(p, terms))
        left.append(found[-1])
    return found


class FactorAlong(unittest.TestCase):
    def test_drawn_factors(self):
        draws = Draws(461)
        some = 0
        for _ in range(200):
            p, n = draws.one_of(FIELDS), draws.between(1, 4)
            factors = drawn_factors(draws, p, n, 5)
            product = whole(p, n, factors)
            asked = [powers for powers, _ in product][:6] + [tuple(draws.below(5) for _ in range(n)), (0,) * n]
            for powers in asked:
                order = drawn_order(draws, n)
                wanted = factor_of(product, powers)
                some += wanted != 0
                self.assertEqual(factor_along(p, n, factors, powers, order), wanted)
                pieces = plain_pieces(p, n, factors, powers, order)
                sizes = piece_sizes(p, n, factors, powers, order)
                self.assertEqual(sizes, tuple(len(piece) for piece in pieces))
                self.assertTrue(only_tuples(sizes))
                for at, piece, size, reached in zip(order, pieces, sizes, reach_along(n, factors, order)):
                    self.assertLessEqual(set(plain_touched(piece, n)), set(reached))
                    bound = 1
                    for other in reached:
                        bound *= powers[other] + 1
                    self.assertLessEqual(size, bound)
        self.assertGreater(some, 200)

    def test_all_orders_tell_the_same(self):
        draws = Draws(462)
        for powers in (LARGE_POWERS, (2, 2, 2, 2, 2, 1, 2, 1, 1, 1), (4, 0, 2, 1, 2, 1, 2, 2, 1, 1)):
            factors = tie_factors(0, 10, LARGEST[1])
            wanted = factor_along(0, 10, factors, powers, best_order(10, factors))
            for _ in range(5):
                self.assertEqual(factor_along(0, 10, factors, powers, drawn_order(draws, 10)), wanted)
        self.assertNotEqual(factor_along(0, 10, factors, LARGE_POWERS, best_order(10, factors)), 0)

    def test_edges(self):
        one = number_polynomial
        self.assertEqual(factor_along(0, 2, (), (0, 0), (1, 0)), 1)
        self.assertEqual(factor_along(0, 2, (), (1, 0), (1, 0)), 0)
        self.assertEqual(piece_sizes(0, 2, (), (1, 0), (1, 0)), (1, 0))
        self.assertEqual(piece_sizes(0, 2, (), (0, 0), (0, 1)), (1, 1))
        self.assertEqual(factor_along(7, 1, (one(7, 1, 3), one(7, 1, 4)), (0,), (0,)), 5)
        self.assertEqual(factor_along(7, 1, (one(7, 1, 3), ()), (0,), (0,)), 0)
        self.assertEqual(factor_along(0, 1, ((((40,), 1),), (((40,), -3),)), (80,), (0,)), -3)
        self.assertEqual(factor_along(0, 4, RING_FACTORS, (1, 1, 1, 1), (0, 1, 2, 3)), -2)
        self.assertEqual(piece_sizes(0, 4, RING_FACTORS, (1, 1, 1, 1), (0, 1, 2, 3)), (2, 2, 1, 1))
        self.assertEqual(factor_along(2, 4, tie_factors(2, 4, RING[1]), (1, 1, 1, 1), (0, 1, 2, 3)), 0)
        # A factor is touched by a term even if its powers are too great.
        far = (((0, 1), 1), ((5, 0), 1))
        self.assertEqual(piece_sizes(0, 2, (far,), (1, 1), (0, 1)), (0, 0))
        self.assertEqual(piece_sizes(0, 2, (far,), (0, 1), (0, 1)), (1, 1))
        self.assertEqual(factor_along(0, 2, (far,), (0, 1), (0, 1)), 1)

    def test_webs(self):
        for p in (0, 3):
            factors = tie_factors(p, 4, RING[1])
            for powers, factor in web_polynomial(p, RING):
                self.assertEqual(factor_along(p, 4, factors, powers, (2, 0, 3, 1)), factor)

    def test_far_more_terms_than_could_be_told(self):
        # The product of (unknown at plus the next one) to the power 20: 21 to the power 9 terms before like ones.
        n = 10
        sums = [told(0, {tuple(int(k == at) for k in range(n)): 1, tuple(int(k == at + 1) for k in range(n)): 1})
                for at in range(n - 1)]
        factors = tuple(sums * 20)
        powers = (10,) + (20,) * (n - 2) + (10,)
        for order in (tuple(range(n)), tuple(range(n))[::-1], (4, 5, 3, 6, 2, 7, 1, 8, 0, 9)):
            found = factor_along(0, n, factors, powers, order)
            self.assertEqual(found, 184756 ** 9)
            self.assertLessEqual(max(piece_sizes(0, n, factors, powers, order)), 21 ** 2)
        self.assertEqual(piece_sizes(0, n, factors, powers, tuple(range(n)))[0], 1)
        # All ten unknowns in a ring, to the power 6: two unknowns are reached at a time.
        ring = tuple([less(7, n, at, (at + 1) % n) for at in range(n)] * 6)
        wanted = factor_along(7, n, ring, (6,) * n, best_order(n, ring))
        self.assertEqual(factor_along(7, n, ring, (6,) * n, (0, 2, 4, 6, 8, 1, 3, 5, 7, 9)), wanted)

    def test_such_a_factor_makes_lists_sure(self):
        draws = Draws(463)
        some = 0
        for _ in range(60):
            p, n = draws.one_of((3, 5, 7)), draws.between(1, 3)
            factors = drawn_factors(draws, p, n, 3)
            product = whole(p, n, factors)
            for powers, _ in product:
                if sum(powers) == sum(plain_degree(factor) for factor in factors) and max(powers) < p:
                    self.assertNotEqual(factor_along(p, n, factors, powers, drawn_order(draws, n)), 0)
                    lists = draws.lists(p, [power + 1 for power in powers])
                    self.assertIs(is_sure(product, [len(row) for row in lists], powers), True)
                    choice = sure_choice(p, product, lists, powers)
                    some += all(one in row for one, row in zip(choice, lists))
        self.assertGreater(some, 30)


if __name__ == "__main__":
    unittest.main()
