"""Point [33]: points that meet all planes."""

import unittest
from itertools import combinations, product

from draws import ODD_VALUES, Draws, only_tuples
from listpicks.meeting import is_meeting, least_meeting, missed_plane
from plain_planes import plainly_holds
from refusing import assert_refused

SMALL = ((2, 1), (2, 2), (2, 3), (3, 1), (3, 2), (5, 1), (7, 1))


def all_points(p, n):
    return list(product(range(p), repeat=n))


def all_planes(p, n):
    return [(factors, number) for factors in all_points(p, n) if any(factors) for number in range(p)]


def plainly_missed(p, n, points):
    for plane in all_planes(p, n):
        if not any(plainly_holds(p, plane, point) for point in points):
            return plane
    return None


class Missed(unittest.TestCase):
    def test_all_lots_of_small_grids(self):
        for p, n in SMALL:
            points = all_points(p, n)
            fewest = None
            for many in range(len(points) + 1):
                for lot in combinations(points, many):
                    wanted = plainly_missed(p, n, lot)
                    self.assertEqual(missed_plane(p, n, lot), wanted)
                    self.assertIs(is_meeting(p, n, lot), wanted is None)
                    if wanted is None and fewest is None:
                        fewest = many
            # The fact: no fewer points than least_meeting has meet all planes.
            self.assertEqual(fewest, n * (p - 1) + 1)
            self.assertEqual(len(least_meeting(p, n)), fewest)

    def test_drawn_points(self):
        draws = Draws(221)
        seen = {True: 0, False: 0}
        for _ in range(60):
            p, n = draws.one_of(((3, 3), (5, 2), (7, 2), (2, 5), (11, 1)))
            points = all_points(p, n)
            lot = tuple(draws.one_of(points) for _ in range(draws.between(0, 3 * n * p)))
            wanted = plainly_missed(p, n, lot)
            self.assertEqual(missed_plane(p, n, lot), wanted)
            seen[wanted is None] += 1
        self.assertGreater(min(seen.values()), 10)

    def test_fewer_are_never_enough(self):
        draws = Draws(222)
        for _ in range(40):
            p, n = draws.one_of(((3, 4), (5, 3), (7, 2), (2, 7), (13, 2)))
            lot = set()
            while len(lot) < n * (p - 1):
                lot.add(tuple(draws.element(p) for _ in range(n)))
            plane = missed_plane(p, n, tuple(sorted(lot)))
            self.assertIsNot(plane, None)
            self.assertFalse(any(plainly_holds(p, plane, point) for point in lot))
            self.assertIs(is_meeting(p, n, tuple(sorted(lot))), False)

    def test_edges(self):
        self.assertEqual(missed_plane(3, 2, ((0, 0), (0, 1), (1, 0), (2, 2))), ((1, 1), 2))
        self.assertEqual(missed_plane(3, 2, ()), ((0, 1), 0))
        self.assertEqual(missed_plane(3, 2, ((2, 2), (0, 0), (0, 0), (1, 0), (0, 1))), ((1, 1), 2))
        self.assertEqual(missed_plane(2, 1, ((0,),)), ((1,), 1))
        self.assertIs(missed_plane(2, 1, ((1,), (0,))), None)
        self.assertEqual(missed_plane(101, 1, tuple((one,) for one in range(101) if one != 77)), ((1,), 77))


class LeastMeetings(unittest.TestCase):
    def test_they_meet_all_planes(self):
        for p, n in SMALL + ((3, 3), (5, 2), (2, 6)):
            found = least_meeting(p, n)
            wanted = [point for point in all_points(p, n) if sum(1 for one in point if one) <= 1]
            self.assertEqual(found, tuple(wanted))
            self.assertEqual(len(found), n * (p - 1) + 1)
            self.assertIs(plainly_missed(p, n, found), None)
            self.assertIs(is_meeting(p, n, found), True)
            for at in range(len(found)):
                self.assertIs(is_meeting(p, n, found[:at] + found[at + 1:]), False)

    def test_the_document(self):
        self.assertEqual(least_meeting(3, 2), ((0, 0), (0, 1), (0, 2), (1, 0), (2, 0)))
        self.assertEqual(least_meeting(2, 1), ((0,), (1,)))

    def test_too_many_points_are_refused(self):
        for p, n in ((2, 10), (3, 7), (5, 5), (7, 4), (11, 3), (37, 2), (101, 2), (101, 10), (2, 100)):
            assert_refused(self, p ** n, lambda: missed_plane(p, n, ()), lambda: least_meeting(p, n),
                           lambda: is_meeting(p, n, ()), lambda: is_meeting(p, n, None),
                           lambda: is_meeting(p, n, ((0,) * n,)))

    def test_as_many_as_can_be(self):
        for p, n in ((2, 9), (3, 6), (5, 4), (7, 3), (31, 2), (101, 1)):
            found = least_meeting(p, n)
            self.assertTrue(only_tuples(found))
            self.assertIs(is_meeting(p, n, found), True)
            self.assertIs(is_meeting(p, n, found[:-1]), False)
            self.assertIs(missed_plane(p, n, tuple(all_points(p, n))), None)


class WhatMeetingsAre(unittest.TestCase):
    def test_near_ones(self):
        good = ((0, 0), (0, 1), (1, 0))
        self.assertIs(is_meeting(2, 2, good), True)
        self.assertIs(is_meeting(2, 2, good + ((1, 1),)), True)
        for value in (good[::-1], list(good), good + ((1, 0),), good + ((1, 0), (1, 1)), good[:2], (), good + ((1, 2),),
                      good + ((1, 1, 1),), good + ((1,),), good + ([1, 1],), good + ((1, True),), good + ((1, 1.0),),
                      ((0, False),) + good[1:], good + (None,), good + ((1, None),), ((-1, 0),) + good, (good,),
                      good + ((1, "1"),), ((),) + good, {one: 1 for one in good}, "good"):
            self.assertIs(is_meeting(2, 2, value), False, value)

    def test_values_of_every_kind(self):
        for value in ODD_VALUES + ((),):
            self.assertIs(is_meeting(3, 2, value), False, value)
            self.assertIs(is_meeting(2, 1, value), False, value)


if __name__ == "__main__":
    unittest.main()
