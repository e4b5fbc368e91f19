"""Point [47]: webs and their colourings."""

import unittest

from draws import FIELDS, ODD_VALUES, Draws, is_told_polynomial, only_tuples, plain_choices, plain_degree, plain_worth
from listpicks.webs import colouring, is_colouring, is_web, web_polynomial
from plain_webs import (BARE, LARGEST, ONE, PATH, RING, SEVEN, SIDES, THREE, TWO_THREE, all_ties, complete, drawn_web,
                        plain_colourings, plain_polynomial, ring)


def drawn_lists(draws, n, most, size):
    return tuple(tuple(sorted({draws.below(size) - 1 for _ in range(draws.between(1, most))})) for _ in range(n))


class WhatWebsAre(unittest.TestCase):
    def test_webs(self):
        for web in (ONE, BARE, PATH, THREE, RING, SEVEN, TWO_THREE, LARGEST, SIDES, complete(6), ring(10), (10, ()),
                    (10, all_ties(10)[:16]), (10, all_ties(10)[-16:])):
            self.assertIs(is_web(web), True, web)
        draws = Draws(311)
        for _ in range(100):
            self.assertIs(is_web(drawn_web(draws, 10, 16)), True)

    def test_near_ones(self):
        for value in ((0, ()), (11, ()), (10, all_ties(10)[:17]), (-1, ()), (True, ()), (3.0, ()), ("3", ()), (None, ()),
                      (3, []), (3, ((1, 0),)), (3, ((0, 0),)), (3, ((0, 3),)), (3, ((-1, 2),)), (3, ((0, True),)),
                      (3, ((False, 1),)), (3, ((0, 1.0),)), (3, ([0, 1],)), [3, ((0, 1),)], (3, [(0, 1)]),
                      (3, ((0, 1), (0, 1))), (3, ((1, 2), (0, 1))), (3, ((0, 2), (0, 1))), (3, ((0, 1, 2),)),
                      (3, ((0,),)), (3, (0, 1)), (3,), (3, (), ()), ((0, 1),), ((3, ()),), (3, ((0, None),)), (3, ("01",)),
                      (3, None), (3, 0), (3, {}), (3, ((0, 1), None)), (1, ((0, 1),))):
            self.assertIs(is_web(value), False, value)

    def test_values_of_every_kind(self):
        for value in ODD_VALUES + ((),):
            self.assertIs(is_web(value), False, value)
            self.assertIs(is_web((3, (value,))), False, value)
            self.assertIs(is_web((3, value)), value == (), value)


class Polynomials(unittest.TestCase):
    def test_multiplied_out(self):
        draws = Draws(312)
        for _ in range(80):
            web = drawn_web(draws, 6, 7)
            for p in (0, 2, 3, draws.one_of(FIELDS)):
                found = web_polynomial(p, web)
                self.assertEqual(found, plain_polynomial(p, web[0], web[1]))
                self.assertTrue(is_told_polynomial(p, web[0], found))
                self.assertIn(plain_degree(found), (-1, len(web[1])))

    def test_edges(self):
        self.assertEqual(web_polynomial(0, PATH), (((0, 1, 1), 1), ((0, 2, 0), -1), ((1, 0, 1), -1), ((1, 1, 0), 1)))
        self.assertEqual(web_polynomial(0, ONE), (((0,), 1),))
        self.assertEqual(web_polynomial(2, BARE), (((0, 0, 0), 1),))
        self.assertEqual(web_polynomial(3, (2, ((0, 1),))), (((0, 1), 2), ((1, 0), 1)))
        self.assertEqual(len(web_polynomial(0, complete(5))), 120)

    def test_the_largest(self):
        found = web_polynomial(101, LARGEST)
        self.assertTrue(is_told_polynomial(101, 10, found))
        draws = Draws(313)
        for _ in range(3):
            point = tuple(draws.element(101) for _ in range(10))
            wanted = 1
            for u, v in LARGEST[1]:
                wanted = wanted * (point[u] - point[v]) % 101
            self.assertEqual(plain_worth(101, found, point), wanted)


class Colourings(unittest.TestCase):
    def test_drawn_lists(self):
        draws = Draws(314)
        seen = {True: 0, False: 0}
        for _ in range(400):
            web = drawn_web(draws)
            lists = drawn_lists(draws, web[0], draws.between(1, 3), draws.between(2, 5))
            good = plain_colourings(web, lists)
            found = colouring(web, lists)
            seen[found is None] += 1
            self.assertEqual(found, good[0] if good else None)
            for choice in plain_choices(lists):
                self.assertIs(is_colouring(web, lists, choice), choice in good)
            polynomial = web_polynomial(0, web)
            for choice in plain_choices(lists)[:5]:
                self.assertIs(plain_worth(0, polynomial, choice) != 0, choice in good)
        self.assertGreater(min(seen.values()), 50)

    def test_edges(self):
        self.assertEqual(colouring(RING, ((1, 2), (1, 2), (2, 3), (1, 3))), (2, 1, 2, 1))
        self.assertEqual(colouring(ONE, ((-7, 3),)), (-7,))
        self.assertEqual(colouring(BARE, ((4,), (4,), (4,))), (4, 4, 4))
        self.assertIs(colouring((2, ((0, 1),)), ((5,), (5,))), None)
        self.assertEqual(colouring((2, ((0, 1),)), ((5,), (5, 10 ** 29))), (5, 10 ** 29))
        self.assertIs(colouring(THREE, ((1, 2),) * 3), None)
        self.assertEqual(colouring(THREE, ((1, 2, 3),) * 3), (1, 2, 3))
        # Lists of two that leave one of the two sides nothing.
        lists = ((1, 2), (3, 4), (1, 3), (1, 4), (2, 3), (2, 4))
        self.assertIs(colouring((6, tuple((u, v) for u in (0, 1) for v in range(2, 6))), lists), None)

    def test_largest_webs(self):
        twelve = tuple(range(12))
        # Far more choices than could be gone through; the last places have no colouring.
        web = (10, ((7, 8), (7, 9), (8, 9)))
        self.assertIs(colouring(web, (twelve,) * 7 + ((1, 2),) * 3), None)
        self.assertEqual(colouring(web, (twelve,) * 7 + ((1, 2), (1, 2), (2, 9))), (0,) * 7 + (1, 2, 9))
        self.assertEqual(colouring(complete(6), (twelve,) * 6), (0, 1, 2, 3, 4, 5))
        self.assertIs(colouring(complete(6), (twelve[:5],) * 6), None)
        found = colouring(LARGEST, (twelve,) * 10)
        self.assertIs(is_colouring(LARGEST, (twelve,) * 10, found), True)
        self.assertTrue(only_tuples(found))
        self.assertEqual(colouring(ring(10), ((1, 2),) * 10), (1, 2) * 5)
        self.assertIs(colouring(ring(9), ((1, 2),) * 9), None)
        draws = Draws(315)
        for _ in range(20):
            lists = tuple(draws.row(0, 3) for _ in range(8))
            good = plain_colourings(SIDES, lists)
            self.assertEqual(colouring(SIDES, lists), good[0])


class WhatColouringsAre(unittest.TestCase):
    def test_near_ones(self):
        lists = ((0, 1), (0, 1, 2), (1, 2))
        self.assertIs(is_colouring(PATH, lists, (0, 1, 2)), True)
        for value in ([0, 1, 2], (0, True, 2), (False, 1, 2), (0, 1.0, 2), (0, 0, 1), (0, 2, 2), (0, 1), (0, 1, 2, 0),
                      (2, 1, 2), (0, 3, 2), (0, None, 2), ((0, 1, 2),), "012", (0, "1", 2), (0, (1,), 2), None):
            self.assertIs(is_colouring(PATH, lists, value), False, value)
        self.assertIs(is_colouring(ONE, ((0,),), (False,)), False)
        self.assertIs(is_colouring(ONE, ((0,),), (0,)), True)

    def test_values_of_every_kind(self):
        for value in ODD_VALUES + ((),):
            self.assertIs(is_colouring(RING, ((1, 2), (1, 2), (2, 3), (1, 3)), value), False, value)
            self.assertIs(is_colouring(ONE, ((7,),), value), False, value)


if __name__ == "__main__":
    unittest.main()
