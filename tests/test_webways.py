"""Point [48]: ways."""

import unittest

from draws import ODD_VALUES, Draws, only_tuples
from listpicks.webways import is_way, is_within, outs, ways_with, way_within
from plain_lots import plain_lots
from plain_webs import (BARE, LARGEST, ONE, PATH, RING, SIDES, THREE, complete, drawn_web, plain_outs, plain_ways)


def plain_between(web, lot):
    return sum(1 for u, v in web[1] if u in lot and v in lot)


class Ways(unittest.TestCase):
    def test_drawn_webs(self):
        draws = Draws(321)
        for _ in range(60):
            web = drawn_web(draws)
            wanted = {}
            for way in plain_ways(web):
                self.assertIs(is_way(web, way), True)
                self.assertEqual(outs(web, way), plain_outs(web, way))
                wanted.setdefault(plain_outs(web, way), []).append(way)
            for numbers, ways in wanted.items():
                self.assertEqual(ways_with(web, numbers), tuple(ways))
                for at in range(web[0]):
                    more = numbers[:at] + (numbers[at] + 1,) + numbers[at + 1:]
                    self.assertEqual(ways_with(web, more), ())
                    if numbers[at]:
                        less = numbers[:at] + (numbers[at] - 1,) + numbers[at + 1:]
                        self.assertEqual(ways_with(web, less), ())
            for _ in range(5):
                numbers = tuple(draws.below(4) for _ in range(web[0]))
                self.assertEqual(ways_with(web, numbers), tuple(wanted.get(numbers, ())))

    def test_edges(self):
        self.assertEqual(outs(RING, (0, 1, 0, 0)), (1, 1, 1, 1))
        self.assertEqual(ways_with(RING, (1, 1, 1, 1)), ((0, 1, 0, 0), (1, 0, 1, 1)))
        self.assertEqual((outs(ONE, ()), ways_with(ONE, (0,)), ways_with(ONE, (1,))), ((0,), ((),), ()))
        self.assertEqual((outs(BARE, ()), ways_with(BARE, (0, 0, 0)), ways_with(BARE, (0, 1, 0))), ((0,) * 3, ((),), ()))
        self.assertEqual((outs(PATH, (0, 0)), outs(PATH, (0, 1)), outs(PATH, (1, 0))), ((1, 1, 0), (1, 0, 1), (0, 2, 0)))
        self.assertEqual(ways_with(THREE, (1, 1, 1)), ((0, 1, 0), (1, 0, 1)))
        self.assertEqual(ways_with(THREE, (10 ** 30, 0, 0)), ())

    def test_largest_webs(self):
        for web in (LARGEST, SIDES):
            found = ways_with(web, outs(web, (0, 1) * 8))
            self.assertIn((0, 1) * 8, found)
            self.assertEqual(list(found), sorted(set(found)))
            self.assertTrue(all(outs(web, way) == outs(web, (0, 1) * 8) for way in found))
        web, numbers = complete(6), (3, 3, 3, 2, 2, 2)
        self.assertEqual(ways_with(web, numbers), tuple(way for way in plain_ways(web) if plain_outs(web, way) == numbers))


class WhatWaysAre(unittest.TestCase):
    def test_near_ones(self):
        self.assertIs(is_way(PATH, (0, 1)), True)
        self.assertIs(is_way(ONE, ()), True)
        for value in ([0, 1], (0, True), (False, 1), (0, 2), (-1, 0), (0,), (0, 1, 0), (0, 1.0), (0, None), ("0", 1), (),
                      ((0, 1),), "01", {0: 1}, 0, None):
            self.assertIs(is_way(PATH, value), False, value)
        self.assertIs(is_way(ONE, []), False)

    def test_values_of_every_kind(self):
        for value in ODD_VALUES:
            self.assertIs(is_way(RING, value), False, value)
            self.assertIs(is_way(ONE, value), False, value)
            self.assertIs(is_way((2, ((0, 1),)), value), False, value)


class WaysWithin(unittest.TestCase):
    def test_just_one_of_both(self):
        draws = Draws(322)
        seen = {"way": 0, "lot": 0}
        for _ in range(200):
            web = drawn_web(draws)
            most = tuple(draws.below(3) for _ in range(web[0]))
            ways = [way for way in plain_ways(web) if all(a <= b for a, b in zip(plain_outs(web, way), most))]
            lots = [lot for lot in plain_lots(web[0]) if plain_between(web, lot) > sum(most[at] for at in lot)]
            self.assertNotEqual(bool(ways), bool(lots))
            word, evidence = way_within(web, most)
            seen[word] += 1
            self.assertIn(evidence, ways if word == "way" else lots)
            self.assertTrue(only_tuples(evidence))
            for way in plain_ways(web):
                self.assertIs(is_within(web, most, ("way", way)), way in ways)
                self.assertIs(is_within(web, most, ("lot", way)), way in lots)
            for lot in plain_lots(web[0]):
                self.assertIs(is_within(web, most, ("lot", lot)), lot in lots)
        self.assertGreater(min(seen.values()), 30)

    def test_edges(self):
        self.assertEqual(way_within(RING, (1, 1, 0, 1)), ("lot", (0, 1, 2, 3)))
        self.assertEqual(way_within(ONE, (0,)), ("way", ()))
        self.assertEqual(way_within(BARE, (0, 0, 0)), ("way", ()))
        self.assertEqual(way_within((2, ((0, 1),)), (1, 0)), ("way", (0,)))
        self.assertEqual(way_within((2, ((0, 1),)), (0, 1)), ("way", (1,)))
        self.assertEqual(way_within((2, ((0, 1),)), (0, 0)), ("lot", (0, 1)))
        self.assertEqual(way_within((2, ((0, 1),)), (10 ** 30, 0)), ("way", (0,)))

    def test_largest_webs(self):
        draws = Draws(323)
        for _ in range(100):
            web = draws.one_of((LARGEST, SIDES, complete(6)))
            most = tuple(draws.between(1, 3) for _ in range(web[0]))
            found = way_within(web, most)
            self.assertIs(is_within(web, most, found), True)
            if found[0] == "way":
                self.assertTrue(all(a <= b for a, b in zip(plain_outs(web, found[1]), most)))
            else:
                self.assertGreater(plain_between(web, found[1]), sum(most[at] for at in found[1]))

    def test_near_ones(self):
        for value in (("way", (0, 1, 0, 0)), ("way", (0, 0, 0, 1))):
            self.assertIs(is_within(RING, (2, 1, 1, 1), value), True)
        for value in (["way", (0, 1, 0, 0)], ("way", [0, 1, 0, 0]), ("way", (0, True, 0, 0)), ("lot", (0, 1, 0, 0)),
                      ("way", (0, 1, 0)), ("way", (0, 1, 0, 0), 0), ("way",), ("Way", (0, 1, 0, 0)), (b"way", (0, 1, 0, 0)),
                      (0, (0, 1, 0, 0)), ("way", None), ("way", (1, 1, 0, 0)), (("way",), (0, 1, 0, 0)), (0, 1, 0, 0),
                      ("lot", (0, 1, 2, 3)), ("lot", ()), ("way", ())):
            self.assertIs(is_within(RING, (2, 1, 1, 1), value), False, value)
        self.assertIs(is_within(RING, (1, 1, 0, 1), ("lot", (0, 1, 2, 3))), True)
        for value in (("lot", [0, 1, 2, 3]), ("lot", (0, 1, 3, 2)), ("lot", (0, 1, 2)), ("lot", (False, 1, 2, 3)),
                      ("lot", (0, True, 2, 3)), ("lot", (0, 1, 2, 3, 4)), ("lot", (0, 1, 2, 3, 3)), ("lot", (-1, 0, 1, 2, 3)),
                      ("lot", (0, 1, 2, 3.0)), ("lot", None), ("lot", 0), ["lot", (0, 1, 2, 3)], ("lot",), ("lot", ()),
                      ("way", (0, 1, 2, 3)), ("lots", (0, 1, 2, 3))):
            self.assertIs(is_within(RING, (1, 1, 0, 1), value), False, value)

    def test_values_of_every_kind(self):
        for value in ODD_VALUES:
            for thing in (value, ("way", value), ("lot", value), (value, (0, 1, 0, 0)), (value, (0, 1, 2, 3))):
                self.assertIs(is_within(RING, (1, 1, 0, 1), thing), False, thing)
        self.assertIs(is_within(ONE, (0,), ("way", ())), True)
        self.assertIs(is_within(ONE, (0,), ("lot", ())), False)
        self.assertIs(is_within(ONE, (0,), ("lot", (0,))), False)


if __name__ == "__main__":
    unittest.main()
