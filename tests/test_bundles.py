"""Point [57]: bundles and their parts."""

import unittest

from draws import ODD_VALUES, Draws, all_below, only_tuples
from listpicks.bundles import is_bundle, is_divided, is_equal, tie_numbers
from plain_bundles import plain_numbers
from plain_webs import BARE, LARGEST, ONE, PATH, RING, THREE, drawn_web

NEAR = ([1, 1], (1,), (1, 1, 1), (True, 1), (1, False), (1.0, 1), (1, None), (1, "1"), (-1, 1), (1, -1), ((1, 1),),
        "11", 11, None, {0: 1, 1: 1}, (), (1, (1,)))


class Bundles(unittest.TestCase):
    def test_what_bundles_are(self):
        for bundle in ((0, 0), (1, 0), (200, 0), (100, 100), (0, 200)):
            self.assertIs(is_bundle(PATH, bundle), True)
        for bundle in ((201, 0), (200, 1), (0, 201), (101, 100)):
            self.assertIs(is_bundle(PATH, bundle), False)
        for value in NEAR:
            self.assertIs(is_bundle(PATH, value), False, value)
        for web in (ONE, BARE):
            self.assertIs(is_bundle(web, ()), True)
            self.assertIs(is_bundle(web, (0,)), False)
        self.assertIs(is_bundle(LARGEST, (12,) * 16), True)
        self.assertIs(is_bundle(LARGEST, (13,) * 16), False)
        for value in ODD_VALUES:
            self.assertIs(is_bundle(RING, value), False, value)
            self.assertIs(is_bundle(ONE, value), False, value)

    def test_tie_numbers(self):
        self.assertEqual(tie_numbers(ONE, ()), (0,))
        self.assertEqual(tie_numbers(BARE, ()), (0, 0, 0))
        self.assertEqual(tie_numbers(PATH, (200, 0)), (200, 200, 0))
        self.assertEqual(tie_numbers(THREE, (3, 4, 5)), (7, 8, 9))
        draws = Draws(381)
        for _ in range(100):
            web = drawn_web(draws)
            bundle = tuple(draws.below(9) for _ in web[1])
            found = tie_numbers(web, bundle)
            self.assertTrue(only_tuples(found))
            self.assertEqual(found, plain_numbers(web, bundle))
            self.assertEqual(sum(found), 2 * sum(bundle))


class Parts(unittest.TestCase):
    def test_all_parts_of_drawn_bundles(self):
        draws = Draws(382)
        seen = {}
        for _ in range(150):
            web = drawn_web(draws, 4, 4)
            q = draws.one_of((2, 2, 3, 4, 5, 6))
            bundle = tuple(draws.below(5) for _ in web[1])
            for value in all_below([many + 2 for many in bundle]):
                part = any(value) and all(one <= many for one, many in zip(value, bundle))
                numbers = plain_numbers(web, value)
                divided = part and all(many % q == 0 for many in numbers)
                equal = part and all(many in (0, q) for many in numbers)
                seen[(part, divided, equal)] = seen.get((part, divided, equal), 0) + 1
                self.assertIs(is_divided(q, web, bundle, value), bool(divided))
                self.assertIs(is_equal(q, web, bundle, value), bool(equal))
        self.assertEqual(len(seen), 4)
        self.assertGreater(min(seen.values()), 10)

    def test_near_ones(self):
        self.assertIs(is_divided(2, PATH, (2, 2), (2, 0)), True)
        self.assertIs(is_equal(2, PATH, (2, 2), (2, 0)), True)
        self.assertIs(is_divided(2, PATH, (4, 2), (4, 0)), True)
        self.assertIs(is_equal(2, PATH, (4, 2), (4, 0)), False)
        self.assertIs(is_divided(2, PATH, (4, 2), (2, 2)), True)
        self.assertIs(is_equal(2, PATH, (4, 2), (2, 2)), False)
        for value in NEAR + ([2, 0], (2.0, 0), (2, False), (2,), (2, 0, 0), (0, 0), (4, 0), (0, 4), (1, 1), (-2, 0),
                             (2, -2)):
            for asked in (is_divided, is_equal):
                self.assertIs(asked(2, PATH, (2, 2), value), False, value)
        self.assertIs(is_divided(16, PATH, (100, 100), (16, 32)), True)
        self.assertIs(is_equal(16, PATH, (100, 100), (0, 16)), True)

    def test_values_of_every_kind(self):
        for value in ODD_VALUES:
            for asked in (is_divided, is_equal):
                self.assertIs(asked(2, RING, (4, 4, 4, 4), value), False, value)
                self.assertIs(asked(3, ONE, (), value), False, value)
        self.assertIs(is_divided(2, ONE, (), ()), False)
        self.assertIs(is_equal(2, BARE, (), ()), False)


if __name__ == "__main__":
    unittest.main()
