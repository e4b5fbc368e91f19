"""Points [39] and [41]: what polynomials add up to over all points."""

import unittest
from itertools import product

from draws import FIELDS, Draws, plain_degree, plain_worth, told
from listpicks.totals import all_lists, total_worth, zero_unknowns

PRIMES = FIELDS[1:]


class AllLists(unittest.TestCase):
    def test_they_have_all_elements(self):
        for p in (2, 3, 5, 7, 11):
            for n in range(1, 11):
                self.assertEqual(all_lists(p, n), (tuple(range(p)),) * n)
        self.assertEqual(all_lists(3, 2), ((0, 1, 2), (0, 1, 2)))


class Totals(unittest.TestCase):
    def test_all_points_gone_through(self):
        draws = Draws(271)
        seen = {True: 0, False: 0}
        for _ in range(300):
            p, n = draws.one_of(((2, 1), (2, 3), (2, 4), (3, 1), (3, 2), (3, 3), (5, 1), (5, 2), (7, 1), (7, 2), (11, 1)))
            totals = {}
            for _ in range(draws.between(0, 4)):
                powers = tuple(draws.between(0, 3) * (p - 1) + (draws.below(4) == 0) for _ in range(n))
                totals[powers] = draws.element(p)
            f = told(p, totals)
            wanted = sum(plain_worth(p, f, point) for point in product(range(p), repeat=n)) % p
            found = total_worth(p, n, f)
            self.assertEqual(found, wanted)
            self.assertIs(type(found), int)
            if plain_degree(f) < n * (p - 1):
                self.assertEqual(found, 0)
            seen[found == 0] += 1
        self.assertGreater(min(seen.values()), 40)

    def test_edges(self):
        self.assertEqual(total_worth(3, 2, (((2, 2), 1), ((2, 4), 1), ((4, 0), 1))), 2)
        self.assertEqual(total_worth(3, 2, ()), 0)
        self.assertEqual(total_worth(5, 1, (((0,), 1),)), 0)
        self.assertEqual(total_worth(5, 1, (((4,), 1),)), 4)
        self.assertEqual(total_worth(5, 1, (((4,), 3), ((8,), 4))), 3)
        self.assertEqual(total_worth(5, 1, (((3,), 1), ((5,), 1), ((6,), 1), ((7,), 1))), 0)
        self.assertEqual([total_worth(2, 1, (((power,), 1),)) for power in range(4)], [0, 1, 1, 1])
        self.assertEqual(total_worth(2, 3, (((1, 1, 0), 1), ((5, 1, 2), 1))), 1)

    def test_however_many_points(self):
        self.assertEqual(total_worth(11, 10, (((10,) * 10, 7), ((20,) * 10, 5), ((10,) * 9 + (9,), 1))), 1)
        self.assertEqual(total_worth(11, 9, (((10,) * 9, 7),)), 4)
        self.assertEqual(total_worth(41, 3, (((40,) * 3, 1), ((0,) * 3, 1))), 40)
        self.assertEqual(total_worth(101, 10, (((40,) * 10, 1),)), 0)


class ZeroUnknowns(unittest.TestCase):
    def test_first_so_many(self):
        for p in PRIMES:
            for n in range(1, 11):
                for many in range(n + 1):
                    wanted = tuple(((tuple(int(k == at) for k in range(n)), 1),) for at in range(many))
                    self.assertEqual(zero_unknowns(p, n, many), wanted)
        self.assertEqual(zero_unknowns(5, 2, 1), ((((1, 0), 1),),))
        self.assertEqual(zero_unknowns(5, 2, 0), ())


if __name__ == "__main__":
    unittest.main()
