"""Point [28]: lost worths."""

import unittest
from itertools import combinations

from draws import Draws, far_too_many, only_tuples, plain_choices, plain_degree, plain_table
from listpicks.codes import is_code_table
from listpicks.errors import Refused
from listpicks.fewpicks import fewest_condition, least_picks
from listpicks.lost import filled, is_enough
from small_codes import LARGE_LISTS, LARGEST_LISTS, PRIMES, SMALL, code


def lots(many):
    """All ascending tuples of numbers below many."""
    return [lot for size in range(many + 1) for lot in combinations(range(many), size)]


def fits(table, other):
    return all(one is None or one == two for one, two in zip(table, other))


class Enough(unittest.TestCase):
    def test_all_lots_of_small_codes(self):
        seen = {True: 0, False: 0}
        for p, lists in SMALL:
            many = len(plain_choices(lists))
            for d in range(sum(len(row) for row in lists) - len(lists) + 2):
                tables = code(p, lists, d)
                for lost in lots(many):
                    alone = [table for table in tables if any(table)
                             and not any(one for at, one in enumerate(table) if at not in lost)]
                    self.assertIs(is_enough(p, lists, d, lost), not alone)
                    seen[not alone] += 1
        self.assertGreater(min(seen.values()), 50)

    def test_fewer_than_least_picks_always_are(self):
        draws = Draws(121)
        for _ in range(60):
            p, n = draws.one_of(PRIMES), draws.between(1, 3)
            lists = draws.lists(p, draws.lengths(p, n, 4))
            lengths, many = tuple(len(row) for row in lists), len(plain_choices(lists))
            for d in range(sum(lengths) - n + 1):
                few = least_picks(lengths, d) - 1
                lost = set()
                while len(lost) < few:
                    lost.add(draws.below(many))
                self.assertIs(is_enough(p, lists, d, tuple(sorted(lost))), True)
                # Some lot of so many isn't: where the condition with fewest choices isn't 0.
                table = plain_table(p, fewest_condition(p, lists, d), lists)
                self.assertIs(is_enough(p, lists, d, tuple(at for at, one in enumerate(table) if one)), False)

    def test_edges(self):
        lists = ((0, 1), (0, 1, 2))
        self.assertIs(is_enough(3, lists, 1, ()), True)
        self.assertIs(is_enough(3, lists, 1, (0, 5)), True)
        self.assertIs(is_enough(3, lists, 3, ()), True)
        self.assertIs(is_enough(3, lists, 3, (4,)), False)
        self.assertIs(is_enough(3, lists, 10 ** 9, (0,)), False)
        self.assertIs(is_enough(3, lists, 0, tuple(range(5))), True)
        self.assertIs(is_enough(3, lists, 0, tuple(range(6))), False)
        self.assertIs(is_enough(5, ((4,),), 0, (0,)), False)


class Filled(unittest.TestCase):
    def test_all_lots_of_small_codes(self):
        draws = Draws(122)
        seen = {True: 0, False: 0}
        for p, lists in SMALL:
            many = len(plain_choices(lists))
            for d in range(sum(len(row) for row in lists) - len(lists) + 2):
                tables = code(p, lists, d)
                for lost in lots(many):
                    known = tuple(None if at in lost else draws.below(p) for at in range(many))
                    good = [table for table in tables if fits(known, table)]
                    found = filled(p, lists, d, known)
                    seen[bool(good)] += 1
                    if not good:
                        self.assertIs(found, None)
                        continue
                    self.assertIn(found, good)
                    self.assertTrue(only_tuples(found))
                    self.assertIs(is_enough(p, lists, d, lost), len(good) == 1)
        self.assertGreater(min(seen.values()), 20)

    def test_drawn_tables(self):
        draws = Draws(123)
        alone = 0
        for _ in range(100):
            p, n = draws.one_of(PRIMES), draws.between(1, 3)
            lists = draws.lists(p, draws.lengths(p, n, 4))
            f = draws.polynomial(p, n, 4, 2)
            d = max(0, plain_degree(f) - draws.below(2))
            table = plain_table(p, f, lists)
            known = tuple(None if draws.below(4) == 0 else one for one in table)
            found = filled(p, lists, d, known)
            if found is None:
                self.assertLess(d, plain_degree(f))
                continue
            self.assertTrue(fits(known, found))
            self.assertIs(is_code_table(p, lists, d, found), True)
            if plain_degree(f) <= d and is_enough(p, lists, d, tuple(at for at, one in enumerate(known) if one is None)):
                self.assertEqual(found, table)
                alone += 1
        self.assertGreater(alone, 20)

    def test_edges(self):
        lists = ((0, 1), (0, 1, 2))
        self.assertEqual(filled(3, lists, 1, (None, 1, 2, 1, 2, None)), (0, 1, 2, 1, 2, 0))
        self.assertEqual(filled(3, lists, 1, (0, 1, 2, 1, 2, 0)), (0, 1, 2, 1, 2, 0))
        self.assertIs(filled(3, lists, 1, (0, 1, 2, 1, 2, 1)), None)
        self.assertIs(filled(3, lists, 0, (None, 1, None, None, 2, None)), None)
        self.assertEqual(filled(3, lists, 0, (None, None, None, None, 2, None)), (2,) * 6)
        self.assertIs(is_code_table(3, lists, 1, filled(3, lists, 1, (None,) * 6)), True)
        found = filled(3, lists, 3, (None, 1, 2, 1, 2, None))
        self.assertEqual((found[1:5], is_code_table(3, lists, 3, found)), ((1, 2, 1, 2), True))
        self.assertEqual(filled(5, ((4,),), 0, (3,)), (3,))

    def test_more_are_refused(self):
        table = (None,) * 264
        for call in (lambda: is_enough(13, LARGE_LISTS, 0, ()), lambda: is_enough(13, LARGE_LISTS, 30, (0, 1)),
                     lambda: filled(13, LARGE_LISTS, 0, table), lambda: filled(13, LARGE_LISTS, 30, (0,) * 264)):
            with self.assertRaises(Refused) as caught:
                call()
            self.assertEqual(caught.exception.at, 264)
        with self.assertRaises(Refused) as caught:
            is_enough(13, far_too_many(13), 0, ())
        self.assertEqual(caught.exception.at, 12 ** 10)

    def test_just_so_many(self):
        draws = Draws(124)
        f = draws.polynomial(11, 4, 20, 1)
        table = plain_table(11, f, LARGEST_LISTS)
        few = least_picks((4,) * 4, 4) - 1
        known = tuple(None if at < few else one for at, one in enumerate(table))
        self.assertIs(is_enough(11, LARGEST_LISTS, 4, tuple(range(few))), True)
        self.assertEqual(filled(11, LARGEST_LISTS, 4, known), table)
        self.assertIs(filled(11, LARGEST_LISTS, 4, known[:-1] + ((table[-1] + 1) % 11,)), None)


if __name__ == "__main__":
    unittest.main()
