"""Points [31] and [32]: planes that hold all choices but one, or but a few."""

import unittest

from draws import (FIELDS, JUST_SO_MANY, MORE, MORE_COUNT, ODD_VALUES, Draws, far_too_many, only_tuples, plain_choices)
from listpicks.covers import cover_leaving, fewest_planes, is_cover, least_cover, other_left, whole_cover
from listpicks.fewpicks import least_picks, least_shape
from listpicks.planes import is_plane, left_over
from plain_planes import drawn_plane, plainly_holds, plainly_left
from refusing import assert_refused


def list_plane(n, at, one):
    return tuple(int(k == at) for k in range(n)), one


def drawn_grid(draws, most=4):
    p, n = draws.one_of(FIELDS), draws.between(1, 3)
    return p, n, draws.lists(p, draws.lengths(p, n, most))


def missing_plane(draws, p, n, point):
    """A drawn plane that doesn't hold the point."""
    plane = drawn_plane(draws, p, n)
    while plainly_holds(p, plane, point):
        plane = drawn_plane(draws, p, n)
    return plane


class LeastCovers(unittest.TestCase):
    def test_drawn_ones(self):
        draws = Draws(211)
        for _ in range(100):
            p, n, lists = drawn_grid(draws)
            d = sum(len(row) - 1 for row in lists)
            for point in plain_choices(lists)[:6]:
                found = least_cover(p, lists, point)
                wanted = [list_plane(n, at, one) for at, row in enumerate(lists) for one in row if one != point[at]]
                self.assertEqual(found, tuple(sorted(wanted)))
                self.assertEqual(len(found), d)
                self.assertTrue(all(is_plane(p, n, plane) for plane in found))
                self.assertEqual(plainly_left(p, lists, found), (point,))
                self.assertIs(is_cover(p, lists, point, found), True)
                if found:
                    self.assertIs(is_cover(p, lists, point, found[1:]), False)

    def test_edges(self):
        self.assertEqual(least_cover(7, ((0, 1, 3), (2, 5)), (1, 2)), (((0, 1), 5), ((1, 0), 0), ((1, 0), 3)))
        self.assertEqual(least_cover(5, ((1,), (4,)), (1, 4)), ())
        self.assertEqual(least_cover(0, ((-2, 7),), (7,)), (((1,), -2),))
        # However many choices there are.
        self.assertEqual(len(least_cover(13, far_too_many(13), (3,) * 10)), 110)
        self.assertTrue(only_tuples(least_cover(0, far_too_many(0), tuple(range(10)))))


class WhatCoversAre(unittest.TestCase):
    def test_drawn_ones(self):
        draws = Draws(212)
        seen = {True: 0, False: 0}
        for _ in range(300):
            p, n, lists = drawn_grid(draws, 2)
            planes = tuple(drawn_plane(draws, p, n) for _ in range(draws.below(5)))
            left = plainly_left(p, lists, planes)
            point = left[0] if left and draws.below(3) else draws.one_of(plain_choices(lists))
            self.assertIs(is_cover(p, lists, point, planes), left == (point,))
            seen[left == (point,)] += 1
        self.assertGreater(min(seen.values()), 30)

    def test_near_ones(self):
        lists, point = ((0, 1), (0, 1)), (0, 0)
        self.assertIs(is_cover(5, lists, point, (((1, 0), 1), ((0, 1), 1))), True)
        self.assertIs(is_cover(5, lists, point, (((0, 1), 1), ((1, 0), 1), ((1, 1), 2), ((1, 1), 2))), True)
        for value in (((1, 0), 1), (((1, 0), 1),), [((1, 0), 1), ((0, 1), 1)], (((1, 0), True), ((0, 1), 1)),
                      (((1, 0), 1), ((0, True), 1)), (((1, 0), 1), [(0, 1), 1]), (((1, 0), 1), ([0, 1], 1)),
                      (((1, 0), 1), ((0, 1), 1), ((0, 0), 1)), (((1, 0), 1), ((0, 1), 1), ((1, 1), 0)),
                      (((1, 0), 1), ((0, 1), 1), ((1, 1), 5)), (((1, 0), 1), ((0, 1), 1), None),
                      (((1, 0, 0), 1), ((0, 1, 0), 1)), ((((1, 0), 1), ((0, 1), 1)),), ()):
            self.assertIs(is_cover(5, lists, point, value), False, value)
        self.assertIs(is_cover(5, lists, (1, 1), (((1, 0), 1), ((0, 1), 1))), False)
        self.assertIs(is_cover(5, ((3,), (2,)), (3, 2), ()), True)
        self.assertIs(is_cover(5, ((3,), (2,)), (3, 2), []), False)
        self.assertIs(is_cover(5, ((3,), (2,)), (3, 2), (((1, 0), 3),)), False)
        self.assertIs(is_cover(5, ((3,), (2,)), (3, 2), (((1, 0), 1),)), True)

    def test_values_of_every_kind(self):
        for value in ODD_VALUES:
            self.assertIs(is_cover(5, ((0, 1), (0, 1), (2,)), (0, 0, 2), value), False, value)
            self.assertIs(is_cover(0, ((4,),), (4,), value), False, value)

    def test_too_many_choices_are_refused(self):
        point = (0,) * 5
        assert_refused(self, MORE_COUNT, lambda: is_cover(13, MORE, point, least_cover(13, MORE, point)),
                       lambda: is_cover(0, MORE, point, ()), lambda: is_cover(0, MORE, point, None),
                       lambda: other_left(13, MORE, point, ()))
        assert_refused(self, 12 ** 10, lambda: is_cover(13, far_too_many(13), (0,) * 10, ()),
                       lambda: other_left(13, far_too_many(13), (0,) * 10, ()))

    def test_just_so_many(self):
        point = (3, 0, 9, 9, 1)
        cover = least_cover(11, JUST_SO_MANY, point)
        self.assertIs(is_cover(11, JUST_SO_MANY, point, cover), True)
        self.assertIs(other_left(11, JUST_SO_MANY, point, cover), None)
        self.assertEqual(other_left(11, JUST_SO_MANY, point, cover[1:]), (3, 0, 9, 9, 0))


class OthersLeft(unittest.TestCase):
    def test_fewer_planes_always_leave_another_one(self):
        draws = Draws(213)
        for _ in range(200):
            p, n, lists = drawn_grid(draws)
            point = draws.one_of(plain_choices(lists))
            for many in range(sum(len(row) - 1 for row in lists)):
                planes = tuple(missing_plane(draws, p, n, point) for _ in range(many))
                found = other_left(p, lists, point, planes)
                self.assertIsNot(found, None)
                self.assertNotEqual(found, point)
                self.assertIn(found, plainly_left(p, lists, planes))

    def test_any_planes(self):
        draws = Draws(214)
        seen = {True: 0, False: 0}
        for _ in range(200):
            p, n, lists = drawn_grid(draws, 3)
            point = draws.one_of(plain_choices(lists))
            planes = tuple(missing_plane(draws, p, n, point) for _ in range(draws.below(9)))
            others = [choice for choice in plainly_left(p, lists, planes) if choice != point]
            found = other_left(p, lists, point, planes)
            seen[found is None] += 1
            if others:
                self.assertIn(found, others)
            else:
                self.assertIs(found, None)
        self.assertGreater(min(seen.values()), 40)

    def test_edges(self):
        self.assertEqual(other_left(7, ((0, 1, 3), (2, 5)), (1, 2), (((1, 0), 0), ((0, 1), 5))), (3, 2))
        self.assertIs(other_left(7, ((0,), (2,)), (0, 2), ()), None)
        self.assertEqual(other_left(2, ((0, 1),), (0,), ()), (1,))
        self.assertIs(other_left(2, ((0, 1),), (0,), (((1,), 1),)), None)


class AsFewAsMayBe(unittest.TestCase):
    def test_fewest_planes(self):
        draws = Draws(215)
        for _ in range(100):
            lengths = tuple(draws.between(1, 6) for _ in range(draws.between(1, 5)))
            most = draws.between(1, 40)
            found = fewest_planes(lengths, most)
            self.assertLessEqual(least_picks(lengths, found), most)
            if found:
                self.assertGreater(least_picks(lengths, found - 1), most)
        self.assertEqual(fewest_planes((3, 4), 3), 3)
        self.assertEqual([fewest_planes((3, 4), most) for most in (1, 2, 3, 4, 7, 8, 11, 12, 10 ** 30)],
                         [5, 4, 3, 2, 2, 1, 1, 0, 0])
        self.assertEqual(fewest_planes((1,), 1), 0)
        self.assertEqual(fewest_planes((12,) * 10, 1), 110)
        self.assertEqual(fewest_planes((12,) * 10, 12 ** 10 - 1), 1)

    def test_cover_leaving_leaves_just_least_picks(self):
        draws = Draws(216)
        for _ in range(80):
            p, n, lists = drawn_grid(draws)
            lengths = tuple(len(row) for row in lists)
            for many in range(sum(lengths) - n + 1):
                found = cover_leaving(p, lists, many)
                taken = [length - kept for length, kept in zip(lengths, least_shape(lengths, many))]
                wanted = [list_plane(n, at, one) for at, row in enumerate(lists) for one in row[:taken[at]]]
                self.assertEqual(found, tuple(sorted(wanted)))
                self.assertEqual(len(found), many)
                self.assertEqual(len(plainly_left(p, lists, found)), least_picks(lengths, many))

    def test_planes_leave_none_or_so_many(self):
        draws = Draws(217)
        for _ in range(150):
            p, n, lists = drawn_grid(draws)
            lengths = tuple(len(row) for row in lists)
            planes = tuple(drawn_plane(draws, p, n) for _ in range(draws.below(6)))
            left = left_over(p, lists, planes)
            if left:
                self.assertGreaterEqual(len(left), least_picks(lengths, len(planes)))
            else:
                self.assertGreaterEqual(len(planes), min(lengths))

    def test_whole_cover(self):
        draws = Draws(218)
        for _ in range(80):
            p, n, lists = drawn_grid(draws)
            found = whole_cover(p, lists)
            at = min(range(n), key=lambda k: (len(lists[k]), k))
            self.assertEqual(found, tuple(list_plane(n, at, one) for one in lists[at]))
            self.assertEqual(plainly_left(p, lists, found), ())

    def test_edges(self):
        lists = ((0, 1, 3), (2, 5))
        self.assertEqual(cover_leaving(7, lists, 2), (((0, 1), 2), ((1, 0), 0)))
        self.assertEqual(cover_leaving(7, lists, 0), ())
        self.assertEqual(cover_leaving(7, ((4,),), 0), ())
        self.assertEqual(whole_cover(7, lists), (((0, 1), 2), ((0, 1), 5)))
        self.assertEqual(whole_cover(7, ((1, 2), (3, 4))), (((1, 0), 1), ((1, 0), 2)))
        self.assertEqual(whole_cover(7, ((4,),)), (((1,), 4),))
        # However many choices there are.
        self.assertEqual(cover_leaving(13, far_too_many(13), 1), ((((1,) + (0,) * 9), 0),))
        self.assertEqual(len(cover_leaving(0, far_too_many(0), 110)), 110)
        self.assertEqual(whole_cover(0, far_too_many(0)), tuple(((1,) + (0,) * 9, one) for one in range(12)))


if __name__ == "__main__":
    unittest.main()
