"""Point [67]: choices at which no factor is 0, along an order."""

import unittest

from draws import FIELDS, JUST_SO_MANY, MORE, MORE_COUNT, Draws, only_tuples, plain_choices, plain_worth
from listpicks.picking import pick_count, some_pick
from listpicks.touching import best_order, reach_along
from plain_links import drawn_factors, drawn_order, tie_factors
from plain_webs import LARGEST, all_ties, complete, ring
from refusing import assert_refused


def plain_picks(p, factors, lists):
    return [choice for choice in plain_choices(lists) if all(plain_worth(p, factor, choice) for factor in factors)]


class Picking(unittest.TestCase):
    def test_drawn_factors(self):
        draws = Draws(471)
        seen = {True: 0, False: 0}
        for _ in range(250):
            p, n = draws.one_of(FIELDS), draws.between(1, 4)
            factors = drawn_factors(draws, p, n, 5)
            lists = draws.lists(p, draws.lengths(p, n, 4))
            order = drawn_order(draws, n)
            wanted = plain_picks(p, factors, lists)
            seen[bool(wanted)] += 1
            count = pick_count(p, factors, lists, order)
            self.assertIs(type(count), int)
            self.assertEqual(count, len(wanted))
            found = some_pick(p, factors, lists, order)
            if wanted:
                self.assertIn(found, wanted)
                self.assertTrue(only_tuples(found))
            else:
                self.assertIs(found, None)
        self.assertGreater(min(seen.values()), 60)

    def test_colourings_of_webs(self):
        for k in range(1, 5):
            for n in (3, 4, 5):
                factors = tie_factors(5, n, ring(n)[1])
                self.assertEqual(pick_count(5, factors, (tuple(range(k)),) * n, best_order(n, factors)),
                                 (k - 1) ** n + (k - 1) * (-1) ** n)
        draws = Draws(472)
        factors = tie_factors(0, 10, LARGEST[1])
        for _ in range(10):
            lists = draws.lists(7, [draws.between(2, 4) for _ in range(10)])
            counts = {pick_count(0, factors, lists, order)
                      for order in (best_order(10, factors), drawn_order(draws, 10), drawn_order(draws, 10))}
            self.assertEqual(len(counts), 1)
            found = some_pick(0, factors, lists, drawn_order(draws, 10))
            if found is None:
                self.assertEqual(counts, {0})
            else:
                self.assertTrue(all(one in row for one, row in zip(found, lists)))
                self.assertTrue(all(plain_worth(0, factor, found) for factor in factors))

    def test_edges(self):
        lists = ((1, 3), (0, 2, 4))
        for order in ((0, 1), (1, 0)):
            self.assertEqual(pick_count(5, (), lists, order), 6)
            self.assertIn(some_pick(5, (), lists, order), plain_choices(lists))
            self.assertEqual((pick_count(5, ((),), lists, order), some_pick(5, ((),), lists, order)), (0, None))
            self.assertEqual(pick_count(5, ((((0, 0), 2),),), lists, order), 6)
            self.assertEqual(pick_count(5, ((((0, 0), 2),), ()), lists, order), 0)
            self.assertEqual(pick_count(5, ((((0, 1), 1),),), lists, order), 4)
        self.assertEqual((pick_count(2, (), ((1,),), (0,)), some_pick(2, (), ((1,),), (0,))), (1, (1,)))
        self.assertEqual(pick_count(0, ((((1,), 1),),), ((0,),), (0,)), 0)
        self.assertIs(some_pick(0, ((((1,), 1),),), ((0,),), (0,)), None)
        # The only choice that is left is told.
        factors = tuple(tuple(term for term in (((0, 0), -one % 5), ((1, 0), 1)) if term[1]) for one in (0, 1, 2, 4))
        self.assertEqual(some_pick(5, factors, ((0, 1, 2, 3, 4), (2,)), (0, 1)), (3, 2))

    def test_numbers_of_many_digits(self):
        lists = (tuple(range(12)),) * 10
        self.assertEqual(pick_count(0, (), lists, tuple(range(10))), 12 ** 10)
        path = tie_factors(0, 10, [(at, at + 1) for at in range(9)])
        self.assertEqual(pick_count(0, path, lists, tuple(range(10))), 12 * 11 ** 9)
        self.assertEqual(pick_count(0, tie_factors(0, 10, ring(10)[1]), lists, tuple(range(10))), 11 ** 10 + 11)
        found = some_pick(0, path, lists, tuple(range(10)))
        self.assertTrue(all(found[at] != found[at + 1] for at in range(9)))

    def test_just_20000_and_more(self):
        whole = ((((1,) * 5, 1),),)
        just, more = JUST_SO_MANY, MORE
        self.assertEqual(pick_count(13, whole, just, (4, 3, 2, 1, 0)), 9 ** 4)
        self.assertIsNot(some_pick(13, whole, just, (0, 1, 2, 3, 4)), None)
        assert_refused(self, MORE_COUNT, lambda: pick_count(13, whole, more, (0, 1, 2, 3, 4)),
                       lambda: some_pick(13, whole, more, (4, 3, 2, 1, 0)))
        # Nobody is linked with anybody here, so there are never more than twelve.
        self.assertEqual(pick_count(13, (), more, (0, 1, 2, 3, 4)), MORE_COUNT)

    def test_the_first_such_number(self):
        # A star: along one order all others are reached at once, along the other one none but the middle.
        star = tie_factors(0, 6, [(0, at) for at in range(1, 6)])
        lists = ((1, 2, 3),) + (tuple(range(12)),) * 5
        assert_refused(self, 3 * 12 ** 5, lambda: pick_count(0, star, lists, (0, 1, 2, 3, 4, 5)))
        assert_refused(self, 3 * 12 ** 4, lambda: pick_count(0, star, lists, (5, 0, 1, 2, 3, 4)),
                       lambda: some_pick(0, star, lists, (5, 0, 1, 2, 3, 4)))
        self.assertEqual(pick_count(0, star, lists, (1, 2, 3, 4, 5, 0)), 3 * 11 ** 5)
        rows = ((0, 1),) * 4 + (tuple(range(6)),) + (tuple(range(10)),) * 3
        assert_refused(self, 2 ** 4 * 6 * 10 ** 3, lambda: some_pick(0, tie_factors(0, 8, all_ties(8)), rows,
                                                                     tuple(range(8))))
        # The first unknown with too many is told, though a later one has more, and an earlier one enough.
        pairs = tie_factors(0, 8, ((0, 1), (2, 3), (2, 4), (2, 5), (2, 6), (2, 7)))
        lists = ((1,), (2, 3)) + (tuple(range(7)),) + (tuple(range(8)),) * 5
        assert_refused(self, 7 * 8 ** 5, lambda: pick_count(0, pairs, lists, (0, 2, 1, 3, 4, 5, 6, 7)),
                       lambda: pick_count(0, pairs, lists, (0, 1, 2, 3, 4, 5, 6, 7)))
        self.assertEqual(len(reach_along(8, pairs, (0, 2, 1, 3, 4, 5, 6, 7))[1]), 5)
        self.assertEqual(pick_count(0, tie_factors(0, 5, complete(5)[1]), (tuple(range(7)),) * 5, (0, 1, 2, 3, 4)),
                         2520)


if __name__ == "__main__":
    unittest.main()
