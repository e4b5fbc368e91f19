"""Point [49]: round lots."""

import unittest

from draws import Draws, only_tuples
from listpicks.rounds import round_counts, round_lots
from listpicks.webs import web_polynomial
from plain_lots import plain_lots
from plain_webs import (BARE, LARGEST, ONE, PATH, RING, SIDES, THREE, complete, drawn_web, plain_outs, plain_ways)


def plain_rounds(web, way):
    found = []
    for lot in plain_lots(len(web[1])):
        balance = [0] * web[0]
        for at in lot:
            u, v = web[1][at]
            balance[v if way[at] else u] += 1
            balance[u if way[at] else v] -= 1
        if not any(balance):
            found.append(lot)
    return tuple(sorted(found))


class RoundLots(unittest.TestCase):
    def test_drawn_ways(self):
        draws = Draws(331)
        odd = 0
        for _ in range(120):
            web = drawn_web(draws, 5, 9)
            way = draws.one_of(plain_ways(web))
            wanted = plain_rounds(web, way)
            found = round_lots(web, way)
            self.assertEqual(found, wanted)
            self.assertTrue(only_tuples(found))
            even = sum(1 for lot in wanted if len(lot) % 2 == 0)
            self.assertEqual(round_counts(web, way), (even, len(wanted) - even))
            odd += even < len(wanted)
        self.assertGreater(odd, 10)

    def test_the_factor_is_the_difference_of_the_counts(self):
        draws = Draws(332)
        none = 0
        for _ in range(40):
            web = drawn_web(draws, 5, 7)
            factors = dict(web_polynomial(0, web))
            signs = {}
            for way in plain_ways(web):
                signs[plain_outs(web, way)] = signs.get(plain_outs(web, way), 0) + (-1) ** sum(way)
            for way in plain_ways(web):
                even, odd = round_counts(web, way)
                factor = factors.get(plain_outs(web, way), 0)
                self.assertEqual(factor, (-1) ** sum(way) * (even - odd))
                self.assertEqual(factor, signs[plain_outs(web, way)])
                none += factor == 0
        self.assertGreater(none, 20)

    def test_edges(self):
        self.assertEqual(round_lots(RING, (0, 1, 0, 0)), ((), (0, 1, 2, 3)))
        self.assertEqual(round_counts(RING, (0, 1, 0, 0)), (2, 0))
        self.assertEqual((round_lots(ONE, ()), round_counts(ONE, ())), (((),), (1, 0)))
        self.assertEqual((round_lots(BARE, ()), round_counts(BARE, ())), (((),), (1, 0)))
        self.assertEqual((round_lots(PATH, (0, 1)), round_counts(PATH, (0, 1))), (((),), (1, 0)))
        self.assertEqual((round_lots(THREE, (0, 1, 0)), round_counts(THREE, (0, 1, 0))), (((), (0, 1, 2)), (1, 1)))
        self.assertEqual((round_lots(THREE, (0, 0, 0)), round_counts(THREE, (0, 0, 0))), (((),), (1, 0)))

    def test_the_order_is_that_of_tuples(self):
        # Two rings with one place in common: the lots of both rings, and of each.
        web = (5, ((0, 1), (0, 2), (0, 3), (0, 4), (1, 2), (3, 4)))
        self.assertEqual(round_lots(web, (0, 1, 0, 1, 0, 0)), ((), (0, 1, 2, 3, 4, 5), (0, 1, 4), (2, 3, 5)))
        self.assertEqual(round_counts(web, (0, 1, 0, 1, 0, 0)), (2, 2))

    def test_largest_webs(self):
        draws = Draws(333)
        for web in (LARGEST, SIDES, complete(6)):
            for _ in range(10):
                way = tuple(draws.below(2) for _ in web[1])
                even, odd = round_counts(web, way)
                lots = round_lots(web, way)
                self.assertEqual(len(lots), even + odd)
                self.assertEqual(list(lots), sorted(set(lots)))
                if web == SIDES:
                    self.assertEqual(odd, 0)
                for lot in lots:
                    turned = tuple(1 - turn if at in lot else turn for at, turn in enumerate(way))
                    self.assertEqual(plain_outs(web, turned), plain_outs(web, way))


if __name__ == "__main__":
    unittest.main()
