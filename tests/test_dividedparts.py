"""Point [58]: divided and equal parts found and counted."""

import unittest

from draws import Draws, only_tuples
from listpicks.bundles import is_divided, is_equal, tie_numbers
from listpicks.dividedparts import divided_part, equal_part, part_count
from plain_bundles import plain_count, plain_divided, plain_equal
from plain_lots import plain_lots
from plain_webs import BARE, LARGEST, ONE, PATH, RING, THREE, all_ties, complete, drawn_web, ring
from refusing import assert_refused

NINE = (9, tuple(tie for tie in all_ties(9) if sum(tie) % 2)[:16])
SEVEN_PLACES = (7, all_ties(7)[:16])


class Parts(unittest.TestCase):
    def test_drawn_bundles(self):
        draws = Draws(391)
        seen = {}
        for _ in range(250):
            web = drawn_web(draws, 4, 5)
            q = draws.between(2, 6)
            bundle = tuple(draws.below(q + 1) for _ in web[1])
            divided, equal = plain_divided(q, web, bundle), plain_equal(q, web, bundle)
            for found, good, asked in ((divided_part(q, web, bundle), divided, is_divided),
                                       (equal_part(q, web, bundle), equal, is_equal)):
                if good:
                    self.assertIn(found, good)
                    self.assertTrue(only_tuples(found))
                    self.assertIs(asked(q, web, bundle, found), True)
                else:
                    self.assertIs(found, None)
            self.assertEqual(part_count(q, web, bundle), plain_count(q, web, bundle))
            kind = (bool(divided), bool(equal))
            seen[kind] = seen.get(kind, 0) + 1
        self.assertEqual(sorted(seen), [(False, False), (True, True)])
        self.assertGreater(min(seen.values()), 30)

    def test_single_ties_are_counted_one_by_one(self):
        draws = Draws(392)
        for _ in range(40):
            web = drawn_web(draws, 4, 4)
            q = draws.between(2, 4)
            bundle = tuple(draws.below(4) for _ in web[1])
            single = [tie for tie, many in zip(web[1], bundle) for _ in range(many)]
            good = [lot for lot in plain_lots(len(single))
                    if all(sum(place in single[at] for at in lot) % q == 0 for place in range(web[0]))]
            self.assertEqual(part_count(q, web, bundle), len(good))

    def test_small_tie_numbers(self):
        # Below 2 * q the divided parts are the equal ones.
        draws = Draws(393)
        some = 0
        for _ in range(200):
            web = drawn_web(draws, 5, 8)
            q = draws.between(2, 4)
            bundle = tuple(draws.below(3) for _ in web[1])
            if max(tie_numbers(web, bundle)) < 2 * q:
                some += 1
                self.assertIs(divided_part(q, web, bundle) is None, equal_part(q, web, bundle) is None)
        self.assertGreater(some, 60)

    def test_all_q(self):
        for q in range(2, 17):
            self.assertIs(divided_part(q, PATH, (q - 1, q - 1)), None)
            self.assertIs(equal_part(q, PATH, (q - 1, q - 1)), None)
            self.assertEqual(part_count(q, PATH, (q - 1, q - 1)), 1)
            self.assertEqual(divided_part(q, PATH, (q - 1, q)), (0, q))
            self.assertEqual(equal_part(q, PATH, (q, q - 1)), (q, 0))
            self.assertEqual(part_count(q, PATH, (q, q)), 4)
            self.assertEqual(part_count(q, (2, ((0, 1),)), (200,)), plain_count(q, (2, ((0, 1),)), (200,)))
            self.assertEqual(divided_part(q, THREE, (q // 2,) * 3), None if q % 2 else (q // 2,) * 3)

    def test_more_than_one_round(self):
        # Twice each tie of a ring of five: 4 at each place, never just 3.
        self.assertIs(equal_part(3, ring(5), (2,) * 5), None)
        self.assertEqual(equal_part(4, ring(5), (2,) * 5), (2,) * 5)
        self.assertEqual(divided_part(2, THREE, (1, 1, 1)), (1, 1, 1))
        # Parts that are divided, though none is equal.
        fours = (4, ((0, 1), (0, 3), (1, 2), (1, 3), (2, 3)))
        self.assertEqual((divided_part(4, fours, (1, 3, 1, 2, 3)), equal_part(4, fours, (1, 3, 1, 2, 3))),
                         ((1, 3, 1, 2, 3), None))
        threes = (5, ((0, 1), (0, 2), (0, 3), (0, 4), (1, 3), (1, 4), (2, 3), (2, 4), (3, 4)))
        self.assertEqual(divided_part(3, threes, (2, 2, 2, 0, 0, 1, 0, 1, 1)), (2, 2, 2, 0, 0, 1, 0, 1, 1))
        self.assertIs(equal_part(3, threes, (2, 2, 2, 0, 0, 1, 0, 1, 1)), None)
        four = (4, ((0, 1), (0, 2), (0, 3), (1, 2), (1, 3), (2, 3)))
        self.assertEqual(part_count(3, four, (1,) * 6), 2)
        self.assertEqual(divided_part(3, four, (1,) * 6), (1,) * 6)
        self.assertEqual(equal_part(3, four, (1,) * 6), (1,) * 6)

    def test_edges(self):
        for web in (ONE, BARE):
            self.assertEqual((divided_part(2, web, ()), equal_part(2, web, ()), part_count(2, web, ())),
                             (None, None, 1))
        self.assertEqual((divided_part(3, RING, (0,) * 4), equal_part(3, RING, (0,) * 4),
                          part_count(3, RING, (0,) * 4)),
                         (None, None, 1))
        self.assertEqual(part_count(2, (2, ((0, 1),)), (200,)), 2 ** 199)
        self.assertEqual(part_count(2, RING, (1,) * 4), 2)

    def test_four_for_each_place_and_one_tie_more(self):
        # Of such a bundle some part has 3 or 0 for each place.
        five = complete(5)
        for at in range(10):
            bundle = tuple(1 + (k == at) for k in range(10))
            self.assertIs(is_equal(3, five, bundle, equal_part(3, five, bundle)), True)
            self.assertIs(is_equal(3, five, bundle, divided_part(3, five, bundle)), True)
        for at in range(9):
            bundle = tuple(2 + (k == at) for k in range(9))
            self.assertEqual(divided_part(3, ring(9), bundle), tuple(3 * (k == at) for k in range(9)))
            self.assertIs(divided_part(3, ring(9), (2,) * 9), None)


class Limits(unittest.TestCase):
    def test_just_so_many(self):
        for q, web in ((2, LARGEST), (3, NINE), (4, SEVEN_PLACES), (5, complete(6)), (7, complete(5)),
                       (11, complete(4)), (12, complete(3)), (16, THREE)):
            for many in (1, q - 1, 200 // len(web[1])):
                bundle = (many,) * len(web[1])
                found = divided_part(q, web, bundle)
                self.assertIs(part_count(q, web, bundle) == 1, found is None)
                if found is not None:
                    self.assertIs(is_divided(q, web, bundle, found), True)
        for q, web in ((2, NINE), (3, SEVEN_PLACES), (4, complete(6)), (6, complete(5)), (10, complete(4)),
                       (16, THREE)):
            for many in (1, q - 1, 200 // len(web[1])):
                bundle = (many,) * len(web[1])
                found = equal_part(q, web, bundle)
                if found is not None:
                    self.assertIs(is_equal(q, web, bundle, found), True)

    def test_just_at_20000(self):
        # 27 ** 3 is 19,683, 28 ** 3 is 21,952: with q up to 16 the nearest are 3 ** 9 below, 12 ** 4 above.
        self.assertEqual(part_count(3, (9, ()), ()), 1)
        self.assertIs(divided_part(3, (9, ()), ()), None)
        self.assertIs(equal_part(2, (9, ()), ()), None)
        assert_refused(self, 12 ** 4, lambda: divided_part(12, (4, ()), ()), lambda: part_count(12, (4, ()), ()),
                       lambda: equal_part(11, (4, ()), ()))
        assert_refused(self, 3 ** 10, lambda: divided_part(3, (10, ()), ()), lambda: part_count(3, LARGEST, (0,) * 16),
                       lambda: equal_part(2, (10, ()), ()), lambda: equal_part(2, LARGEST, (200,) + (0,) * 15))
        assert_refused(self, 16 ** 4, lambda: divided_part(16, complete(4), (16,) * 6))
        assert_refused(self, 17 ** 4, lambda: equal_part(16, complete(4), (16,) * 6))
        assert_refused(self, 16 ** 10, lambda: divided_part(16, LARGEST, (0,) * 16), lambda: part_count(16, LARGEST,
                                                                                                        (0,) * 16))
        assert_refused(self, 17 ** 10, lambda: equal_part(16, LARGEST, (0,) * 16))
        self.assertIsNot(divided_part(2, LARGEST, (1,) * 16), None)
        self.assertEqual(equal_part(10, complete(4), (10, 0, 0, 0, 0, 0)), (10, 0, 0, 0, 0, 0))


if __name__ == "__main__":
    unittest.main()
