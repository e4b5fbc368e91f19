"""Point [30]: planes."""

import unittest

from draws import (FIELDS, JUST_SO_MANY, MORE, MORE_COUNT, ODD_VALUES, Draws, far_too_many, only_tuples, plain_choices,
                   plain_degree, plain_worth, told)
from listpicks.planes import is_plane, left_over, plane_holds, plane_polynomial
from plain_planes import drawn_plane, plainly_holds, plainly_left
from refusing import assert_refused


class WhatPlanesAre(unittest.TestCase):
    def test_drawn_ones(self):
        draws = Draws(201)
        for _ in range(100):
            p, n = draws.one_of(FIELDS), draws.between(1, 10)
            plane = drawn_plane(draws, p, n)
            self.assertIs(is_plane(p, n, plane), True)
            self.assertIs(is_plane(p, n + 1, plane), False)
            self.assertIs(is_plane(p, n, ((0,) * n, plane[1])), False)
            self.assertIs(is_plane(p, n, plane + (0,)), False)
            self.assertIs(is_plane(p, n, plane[:1]), False)
            self.assertIs(is_plane(p, n, list(plane)), False)
            self.assertIs(is_plane(p, n, (list(plane[0]), plane[1])), False)

    def test_near_ones(self):
        self.assertIs(is_plane(5, 2, ((1, 0), 0)), True)
        self.assertIs(is_plane(5, 2, ((0, 4), 4)), True)
        self.assertIs(is_plane(0, 2, ((0, -4), -10 ** 29)), True)
        self.assertIs(is_plane(2, 1, ((1,), 1)), True)
        for value in (((1, 0), 5), ((1, 0), -1), ((5, 1), 0), ((1, -1), 0), ((1, True), 0), ((True, 0), 0),
                      ((1, False), 0), ((1, 0), True), ((1, 0), False), ((1, 0), 0.0), ((1.0, 0), 0), ((1, 0), None),
                      ((1, 0), "0"), (("1", 0), 0), ((1, 0), (0,)), ((0, 0), 1), ((0, 0), 0), ((), 0), ((1,), 0),
                      ((1, 0, 0), 0), (1, 0), ((1, 0),), (((1, 0), 0),), ((1, 0), [0]), (None, 0), ((1, None), 0)):
            self.assertIs(is_plane(5, 2, value), False, value)
        self.assertIs(is_plane(0, 1, ((True,), 3)), False)
        self.assertIs(is_plane(0, 1, ((1,), 0.5)), False)

    def test_values_of_every_kind(self):
        for value in ODD_VALUES + ((), ((), 0)):
            self.assertIs(is_plane(5, 3, value), False, value)
            self.assertIs(is_plane(0, 3, value), False, value)


class WhatPlanesHold(unittest.TestCase):
    def test_drawn_ones(self):
        draws = Draws(202)
        seen = {True: 0, False: 0}
        for _ in range(400):
            p, n = draws.one_of(FIELDS), draws.between(1, 4)
            plane = drawn_plane(draws, p, n)
            point = tuple(draws.element(p) for _ in range(n))
            if draws.below(3) == 0:
                total = sum(factor * one for factor, one in zip(plane[0], point))
                plane = (plane[0], total % p if p else total)
            holds = plainly_holds(p, plane, point)
            seen[holds] += 1
            self.assertIs(plane_holds(p, plane, point), holds)
            polynomial = plane_polynomial(p, plane)
            self.assertEqual(plain_degree(polynomial), 1)
            self.assertIs(plain_worth(p, polynomial, point) == 0, holds)
        self.assertGreater(min(seen.values()), 50)

    def test_polynomials(self):
        self.assertEqual(plane_polynomial(5, ((1, 2), 3)), (((0, 0), 2), ((0, 1), 2), ((1, 0), 1)))
        self.assertEqual(plane_polynomial(5, ((0, 2), 0)), (((0, 1), 2),))
        self.assertEqual(plane_polynomial(0, ((-1, 0, 2), 7)), (((0, 0, 0), -7), ((0, 0, 1), 2), ((1, 0, 0), -1)))
        self.assertEqual(plane_polynomial(2, ((1,), 1)), (((0,), 1), ((1,), 1)))
        draws = Draws(203)
        for _ in range(50):
            p, n = draws.one_of(FIELDS), draws.between(1, 10)
            factors, number = drawn_plane(draws, p, n)
            totals = {tuple(int(k == at) for k in range(n)): factor for at, factor in enumerate(factors)}
            totals[(0,) * n] = -number
            self.assertEqual(plane_polynomial(p, (factors, number)), told(p, totals))


class LeftOver(unittest.TestCase):
    def test_drawn_ones(self):
        draws = Draws(204)
        some = 0
        for _ in range(150):
            p, n = draws.one_of(FIELDS), draws.between(1, 3)
            lists = draws.lists(p, draws.lengths(p, n, 4))
            planes = tuple(drawn_plane(draws, p, n) for _ in range(draws.below(5)))
            found = left_over(p, lists, planes)
            self.assertEqual(found, plainly_left(p, lists, planes))
            self.assertTrue(only_tuples(found))
            some += 0 < len(found) < len(plain_choices(lists))
        self.assertGreater(some, 50)

    def test_edges(self):
        self.assertEqual(left_over(3, ((0, 1), (0, 2)), (((1, 1), 0),)), ((0, 2), (1, 0)))
        self.assertEqual(left_over(3, ((0, 1), (0, 2)), ()), ((0, 0), (0, 2), (1, 0), (1, 2)))
        self.assertEqual(left_over(3, ((0, 1), (2,)), (((1, 0), 0), ((1, 0), 1))), ())
        self.assertEqual(left_over(2, ((0,),), (((1,), 1),)), ((0,),))
        self.assertEqual(left_over(0, ((-3, 3), (-6, 6)), (((2, 1), 0),)), ((-3, -6), (3, 6)))

    def test_too_many_choices_are_refused(self):
        plane = ((1, 0, 0, 0, 0), 1)
        assert_refused(self, MORE_COUNT, lambda: left_over(13, MORE, ()), lambda: left_over(0, MORE, (plane,)))
        assert_refused(self, 12 ** 10, lambda: left_over(0, far_too_many(0), ()))

    def test_just_so_many(self):
        self.assertEqual(left_over(11, JUST_SO_MANY, ()), tuple(plain_choices(JUST_SO_MANY)))
        planes = (((0, 0, 0, 0, 1), 1), ((1, 1, 1, 1, 0), 0))
        self.assertEqual(left_over(11, JUST_SO_MANY, planes), plainly_left(11, JUST_SO_MANY, planes))


if __name__ == "__main__":
    unittest.main()
