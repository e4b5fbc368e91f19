"""Point [29]: votes, and tables mended."""

import unittest
from collections import Counter

from draws import (Draws, all_below, divided_worth, far_too_many, is_told_polynomial, only_tuples,
                   plain_choices, plain_degree, plain_differences, plain_table, told)
from listpicks.errors import Refused
from listpicks.mending import mended, sure_mends, vote_boxes, votes
from small_codes import LARGE, LARGE_LISTS, LARGEST_LISTS, PRIMES


def plain_boxes(lists, powers):
    pieces = []
    for row, power in zip(lists, powers):
        found = []
        while len(row) > power:
            found.append(row[:power + 1])
            row = row[power + 1:]
        pieces.append(found)
    return tuple(plain_choices(pieces))


def plain_votes(p, lists, table, powers):
    worths = dict(zip(plain_choices(lists), table))
    return tuple(sum(divided_worth(p, worths[choice], plain_differences(p, box, choice))
                     for choice in plain_choices(box)) % p for box in plain_boxes(lists, powers))


def plainly_mended(p, lists, d, table):
    """As [29] tells it, word by word."""
    lengths = tuple(len(row) for row in lists)
    totals, left = {}, table
    for step in range(min(d, sum(lengths) - len(lengths)), -1, -1):
        part = {}
        for powers in all_below(lengths):
            if sum(powers) == step:
                told_by = Counter(plain_votes(p, lists, left, powers))
                part[powers] = min(one for one in told_by if told_by[one] == max(told_by.values()))
        worths = plain_table(p, told(p, part), lists)
        left = tuple((one - other) % p for one, other in zip(left, worths))
        totals.update(part)
    return told(p, totals)


def drawn_lists(draws, most=4):
    p, n = draws.one_of(PRIMES), draws.between(1, 3)
    return p, n, draws.lists(p, draws.lengths(p, n, most))


class Votes(unittest.TestCase):
    def test_drawn_boxes(self):
        draws = Draws(131)
        for _ in range(40):
            p, _, lists = drawn_lists(draws, 6)
            if len(plain_choices(lists)) > 60:
                continue
            table = tuple(draws.element(p) for _ in plain_choices(lists))
            for powers in all_below([len(row) for row in lists]):
                boxes = vote_boxes(lists, powers)
                self.assertEqual(boxes, plain_boxes(lists, powers))
                self.assertEqual(list(boxes), sorted(boxes))
                self.assertTrue(only_tuples(boxes))
                found = votes(p, lists, table, powers)
                self.assertTrue(only_tuples(found))
                self.assertEqual(found, plain_votes(p, lists, table, powers))

    def test_all_votes_tell_the_factor(self):
        draws = Draws(132)
        for _ in range(60):
            p, n, lists = drawn_lists(draws)
            powers = tuple(draws.below(len(row)) for row in lists)
            f = tuple(term for term in draws.polynomial(p, n, 12, 3) if sum(term[0]) <= sum(powers))
            found = votes(p, lists, plain_table(p, f, lists), powers)
            self.assertEqual(set(found), {dict(f).get(powers, 0)})
            self.assertEqual(len(found), len(vote_boxes(lists, powers)))

    def test_edges(self):
        self.assertEqual(vote_boxes(((0, 1, 3), (2, 4)), (1, 0)), (((0, 1), (2,)), ((0, 1), (4,))))
        self.assertEqual(vote_boxes(((7,),), (0,)), (((7,),),))
        self.assertEqual(vote_boxes((tuple(range(7)),), (2,)), (((0, 1, 2),), ((3, 4, 5),)))
        self.assertEqual(vote_boxes((tuple(range(7)),), (6,)), ((tuple(range(7)),),))
        self.assertEqual(vote_boxes((tuple(range(7)),), (3,)), (((0, 1, 2, 3),),))
        self.assertEqual(votes(2, ((0, 1),) * 3, (1, 0, 1, 0, 0, 0, 0, 1), (1, 0, 0)), (1, 0, 1, 1))
        self.assertEqual(votes(5, ((3, 4),), (1, 2), (0,)), (1, 2))
        self.assertEqual(votes(5, ((2, 4),), (1, 2), (1,)), (3,))

    def test_more_are_refused(self):
        table = (0,) * 264
        for call in (lambda: vote_boxes(LARGE_LISTS, (0, 0, 0)), lambda: votes(13, LARGE_LISTS, table, (0, 0, 0)),
                     lambda: vote_boxes(LARGE_LISTS, (11, 10, 1)), lambda: mended(13, LARGE_LISTS, 0, table),
                     lambda: sure_mends(LARGE[0], 3)):
            with self.assertRaises(Refused) as caught:
                call()
            self.assertEqual(caught.exception.at, 264)
        with self.assertRaises(Refused) as caught:
            vote_boxes(far_too_many(13), (11,) * 10)
        self.assertEqual(caught.exception.at, 12 ** 10)


class Mended(unittest.TestCase):
    def test_how_many_are_sure(self):
        draws = Draws(133)
        for _ in range(60):
            lengths = tuple(draws.between(1, 6) for _ in range(draws.between(1, 3)))
            lists = tuple(tuple(range(length)) for length in lengths)
            if len(plain_choices(lists)) > 60:
                continue
            for d in range(sum(lengths) + 1):
                counts = [len(plain_boxes(lists, powers)) for powers in all_below(lengths) if sum(powers) <= d]
                self.assertEqual(sure_mends(lengths, d), (min(counts) - 1) // 2)
        self.assertEqual(sure_mends((2, 2, 2), 1), 1)
        self.assertEqual((sure_mends((12, 12), 0), sure_mends((2,) * 8, 0), sure_mends((1,), 0)), (71, 127, 0))
        self.assertEqual((sure_mends((7,), 2), sure_mends((7,), 1), sure_mends((7,), 10 ** 9)), (0, 1, 0))
        for n in range(1, 9):
            for d in range(n + 1):
                self.assertEqual(sure_mends((2,) * n, d), (2 ** (n - d) - 1) // 2)

    def test_so_many_wrong_worths_are_mended(self):
        draws = Draws(134)
        wrong = 0
        for _ in range(200):
            p, n, lists = drawn_lists(draws, 5)
            lengths = tuple(len(row) for row in lists)
            d = draws.between(0, 3)
            totals = {powers: draws.element(p) for powers in all_below(lengths) if sum(powers) <= d}
            f = told(p, totals)
            table = list(plain_table(p, f, lists))
            places = set()
            while len(places) < sure_mends(lengths, d):
                places.add(draws.below(len(table)))
            for at in places:
                table[at] = (table[at] + draws.between(1, p - 1)) % p
            wrong += len(places)
            self.assertEqual(mended(p, lists, d, tuple(table)), f)
        self.assertGreater(wrong, 100)

    def test_any_table(self):
        draws = Draws(135)
        for _ in range(60):
            p, n, lists = drawn_lists(draws, 3)
            lengths = tuple(len(row) for row in lists)
            table = tuple(draws.element(p) for _ in plain_choices(lists))
            for d in range(sum(lengths) - n + 3):
                found = mended(p, lists, d, table)
                self.assertTrue(is_told_polynomial(p, n, found))
                self.assertEqual(found, plainly_mended(p, lists, d, table))
                self.assertLessEqual(plain_degree(found), d)

    def test_of_equally_many_the_least(self):
        self.assertEqual(mended(2, ((0, 1),), 0, (1, 0)), ())
        self.assertEqual(mended(5, ((0, 1),), 0, (4, 3)), (((0,), 3),))
        self.assertEqual(mended(5, ((0, 1, 2, 3),), 0, (4, 2, 2, 4)), (((0,), 2),))
        self.assertEqual(mended(5, ((0, 1, 2, 3),), 0, (4, 2, 1, 4)), (((0,), 4),))

    def test_edges(self):
        self.assertEqual(mended(2, ((0, 1),) * 2, 0, (1, 0, 1, 1)), (((0, 0), 1),))
        self.assertEqual(mended(5, ((3,),), 0, (2,)), (((0,), 2),))
        self.assertEqual(mended(5, ((3,),), 10 ** 9, (2,)), (((0,), 2),))
        self.assertEqual(mended(5, ((1, 2), (0, 4)), 7, (0, 0, 0, 0)), ())
        self.assertEqual(mended(5, ((1, 2),), 1, (3, 4)), (((0,), 2), ((1,), 1)))

    def test_just_so_many(self):
        draws = Draws(136)
        f = draws.polynomial(11, 4, 8, 1)
        table = list(plain_table(11, f, LARGEST_LISTS))
        for at in (3, 77, 200, 255):
            table[at] = (table[at] + 1) % 11
        self.assertEqual(sure_mends((4,) * 4, 4), 7)
        self.assertEqual(mended(11, LARGEST_LISTS, 4, tuple(table)), f)


if __name__ == "__main__":
    unittest.main()
