"""Points [50] and [51]: lengths with which a web can be coloured from any lists."""

import unittest
from itertools import product

from draws import ODD_VALUES, Draws, all_below, only_tuples
from listpicks.rounds import round_counts
from listpicks.webcolours import even_length, is_length_paper, length_paper, thickest, two_sides
from listpicks.webs import colouring
from plain_lots import plain_lots
from plain_webs import (BARE, LARGEST, ONE, PATH, RING, SEVEN, SIDES, THREE, TWO_THREE, complete, drawn_web, plain_outs,
                        plain_polynomial, plain_ways, ring, small_webs)


def plain_length_papers(web, lengths):
    found = []
    for way in plain_ways(web):
        if all(many < length for many, length in zip(plain_outs(web, way), lengths)):
            even, odd = round_counts(web, way)
            if even != odd:
                found.append(way)
    return found


def tree(draws, n):
    return n, tuple(sorted((draws.below(at), at) for at in range(1, n)))


class Papers(unittest.TestCase):
    def test_drawn_lengths(self):
        draws = Draws(341)
        seen = {True: 0, False: 0}
        for _ in range(150):
            web = drawn_web(draws)
            lengths = tuple(draws.between(1, 3) for _ in range(web[0]))
            good = plain_length_papers(web, lengths)
            found = length_paper(web, lengths)
            seen[bool(good)] += 1
            if good:
                self.assertIn(found, good)
                self.assertTrue(only_tuples(found))
            else:
                self.assertIs(found, None)
            for way in plain_ways(web):
                self.assertIs(is_length_paper(web, lengths, way), way in good)
            # A paper is there exactly if the polynomial has a term with powers less than the lengths.
            powers = [powers for powers, _ in plain_polynomial(0, web[0], web[1])
                      if all(power < length for power, length in zip(powers, lengths))]
            self.assertIs(bool(powers), bool(good))
        self.assertGreater(min(seen.values()), 30)

    def test_lengths_with_a_paper_are_enough(self):
        draws = Draws(342)
        some = 0
        for _ in range(150):
            web = drawn_web(draws, 6, 10)
            lengths = tuple(draws.between(1, 3) for _ in range(web[0]))
            if length_paper(web, lengths) is not None:
                some += 1
                for size in (3, 4, 6):
                    lists = tuple(tuple(sorted(one * 7 - 9 for one in draws.row(size, length))) for length in lengths)
                    self.assertIsNot(colouring(web, lists), None)
        self.assertGreater(some, 30)

    def test_each_web_has_one_for_lengths_that_add_up_to_places_and_ties(self):
        for web in small_webs(4) + [SEVEN, TWO_THREE]:
            sums = [lengths for lengths in product(*[range(1, 2 + sum(at in tie for tie in web[1]))
                                                     for at in range(web[0])])
                    if sum(lengths) == web[0] + len(web[1])]
            self.assertTrue(any(length_paper(web, lengths) is not None for lengths in sums))

    def test_edges(self):
        self.assertIn(length_paper(RING, (2, 2, 2, 2)), ((0, 1, 0, 0), (1, 0, 1, 1)))
        self.assertEqual((length_paper(ONE, (1,)), length_paper(BARE, (1, 1, 1)), length_paper(ONE, (12,))), ((), (), ()))
        self.assertIs(length_paper(PATH, (1, 1, 2)), None)
        self.assertEqual(length_paper(PATH, (2, 2, 1)), (0, 0))
        self.assertIs(length_paper(THREE, (2, 2, 2)), None)
        self.assertIn(length_paper(THREE, (1, 2, 3)), ((1, 1, 1),))
        self.assertIsNot(length_paper(LARGEST, (10 ** 20,) * 10), None)

    def test_enough_without_a_paper(self):
        self.assertIs(length_paper(TWO_THREE, (2,) * 5), None)
        pairs = [(a, b) for a in range(5) for b in range(a + 1, 5)]
        draws = Draws(343)
        for _ in range(300):
            self.assertIsNot(colouring(TWO_THREE, tuple(draws.one_of(pairs) for _ in range(5))), None)


class WhatPapersAre(unittest.TestCase):
    def test_near_ones(self):
        self.assertIs(is_length_paper(RING, (2, 2, 2, 2), (0, 1, 0, 0)), True)
        for value in ([0, 1, 0, 0], (0, True, 0, 0), (False, 1, 0, 0), (0, 1, 0), (0, 1, 0, 0, 0), (0, 0, 0, 0), (0, 2, 0, 0),
                      (0, 1.0, 0, 0), (0, None, 0, 0), (0, "1", 0, 0), (), ((0, 1, 0, 0),), None, 0):
            self.assertIs(is_length_paper(RING, (2, 2, 2, 2), value), False, value)
        self.assertIs(is_length_paper(RING, (2, 2, 1, 2), (0, 1, 0, 0)), False)
        # Round counts that are alike: the ring of three, put round.
        self.assertIs(is_length_paper(THREE, (2, 2, 2), (0, 1, 0)), False)
        self.assertIs(is_length_paper(THREE, (3, 3, 3), (0, 1, 0)), False)
        self.assertIs(is_length_paper(THREE, (3, 3, 3), (0, 0, 0)), True)
        self.assertIs(is_length_paper(THREE, (2, 3, 3), (0, 0, 0)), False)
        self.assertIs(is_length_paper(ONE, (1,), ()), True)

    def test_values_of_every_kind(self):
        for value in ODD_VALUES:
            self.assertIs(is_length_paper(RING, (3, 3, 3, 3), value), False, value)
            self.assertIs(is_length_paper(ONE, (1,), value), False, value)


class EvenLengths(unittest.TestCase):
    def test_drawn_webs(self):
        draws = Draws(344)
        for web in [drawn_web(draws, 5, 8) for _ in range(60)] + small_webs(4):
            terms = plain_polynomial(0, web[0], web[1])
            self.assertEqual(even_length(web), min(max(powers) for powers, _ in terms) + 1)
            self.assertIsNot(length_paper(web, (even_length(web),) * web[0]), None)
            if even_length(web) > 1:
                self.assertIs(length_paper(web, (even_length(web) - 1,) * web[0]), None)

    def test_what_is_known(self):
        self.assertEqual((even_length(ONE), even_length(BARE), even_length((10, ())), even_length(TWO_THREE)), (1, 1, 1, 3))
        draws = Draws(345)
        for n in range(2, 11):
            self.assertEqual(even_length(tree(draws, n)), 2)
            if n > 2:
                self.assertEqual(even_length(ring(n)), 2 if n % 2 == 0 else 3)
            if n < 7:
                self.assertEqual(even_length(complete(n)), n)
                self.assertIs(colouring(complete(n), (tuple(range(n - 1)),) * n), None)

    def test_a_part_has_no_greater_one(self):
        draws = Draws(346)
        for _ in range(60):
            web = drawn_web(draws, 6, 10)
            part = (web[0], tuple(tie for tie in web[1] if draws.below(4)))
            self.assertLessEqual(even_length(part), even_length(web))
            self.assertLessEqual(thickest(part), thickest(web))

    def test_largest_webs(self):
        self.assertEqual(even_length(SIDES), 3)
        found = even_length(LARGEST)
        self.assertIsNot(length_paper(LARGEST, (found,) * 10), None)
        self.assertGreater(found, thickest(LARGEST))


class Sides(unittest.TestCase):
    def test_drawn_webs(self):
        draws = Draws(347)
        seen = {True: 0, False: 0}
        for _ in range(200):
            web = drawn_web(draws)
            good = [sides for sides in all_below((2,) * web[0]) if all(sides[u] != sides[v] for u, v in web[1])]
            found = two_sides(web)
            seen[bool(good)] += 1
            if not good:
                self.assertIs(found, None)
                continue
            self.assertIn(found, good)
            self.assertTrue(only_tuples(found))
            # No round lot is odd, so each way is a paper for all lengths greater than its outs.
            for way in plain_ways(web)[:20]:
                self.assertEqual(round_counts(web, way)[1], 0)
                lengths = tuple(many + 1 for many in plain_outs(web, way))
                self.assertIs(is_length_paper(web, lengths, way), True)
            self.assertEqual(even_length(web), thickest(web) + 1)
        self.assertGreater(min(seen.values()), 40)

    def test_edges(self):
        self.assertIn(two_sides(ONE), ((0,), (1,)))
        self.assertIs(two_sides(THREE), None)
        self.assertIn(two_sides(RING), ((0, 1, 0, 1), (1, 0, 1, 0)))
        self.assertIn(two_sides(SEVEN), ((0, 0, 1, 1, 1, 0, 1), (1, 1, 0, 0, 0, 1, 0)))
        self.assertIs(two_sides((5, ((0, 1), (0, 4), (1, 2), (2, 3), (3, 4)))), None)
        self.assertIn(two_sides(SIDES), ((0,) * 4 + (1,) * 4, (1,) * 4 + (0,) * 4))
        self.assertIs(two_sides((10, ((0, 9), (7, 8), (7, 9), (8, 9)))), None)
        self.assertEqual(len(two_sides((10, ()))), 10)


class Thickest(unittest.TestCase):
    def test_drawn_webs(self):
        draws = Draws(348)
        for web in [drawn_web(draws, 6, 12) for _ in range(100)] + small_webs(4):
            wanted = 0
            for lot in plain_lots(web[0])[1:]:
                between = sum(1 for u, v in web[1] if u in lot and v in lot)
                wanted = max(wanted, (between + len(lot) - 1) // len(lot))
            self.assertEqual(thickest(web), wanted)

    def test_edges(self):
        self.assertEqual((thickest(ONE), thickest(BARE), thickest(PATH), thickest(RING), thickest(THREE)), (0, 0, 1, 1, 1))
        self.assertEqual((thickest(complete(4)), thickest(complete(5)), thickest(complete(6)), thickest(SIDES),
                          thickest(TWO_THREE), thickest(LARGEST)), (2, 2, 3, 2, 2, 2))


if __name__ == "__main__":
    unittest.main()
