"""Point [46]: just so many numbers whose sum so many divide."""

import unittest
from itertools import combinations, product

from draws import Draws, only_tuples
from listpicks.equalshares import lacking_numbers, share_lot


class Shares(unittest.TestCase):
    def assert_share(self, n, numbers, found):
        self.assertTrue(only_tuples(found))
        self.assertEqual(len(found), n)
        self.assertEqual(list(found), sorted(set(found)))
        self.assertTrue(0 <= found[0] and found[-1] < len(numbers))
        self.assertEqual(sum(numbers[at] for at in found) % n, 0)

    def test_drawn_numbers(self):
        draws = Draws(301)
        seen = {True: 0, False: 0}
        for _ in range(300):
            n = draws.between(1, 6)
            numbers = tuple(draws.between(-30, 30) if draws.below(4) else 10 ** 29 for _ in range(draws.between(0, 9)))
            if draws.below(2):
                numbers = tuple(number % 2 for number in numbers)
            good = [lot for lot in combinations(range(len(numbers)), n) if sum(numbers[at] for at in lot) % n == 0]
            found = share_lot(n, numbers)
            seen[found is None] += 1
            if good:
                self.assertIn(found, good)
            else:
                self.assertIs(found, None)
        self.assertGreater(min(seen.values()), 50)

    def test_so_many_numbers_always_have_one(self):
        for n in (1, 2, 3, 4):
            for numbers in product(range(n), repeat=2 * n - 1):
                self.assert_share(n, numbers, share_lot(n, numbers))
        draws = Draws(302)
        for n in range(1, 31):
            for size in (2, n + 1, 10 ** 29):
                numbers = tuple(draws.below(size) - size // 2 for _ in range(2 * n - 1))
                self.assert_share(n, numbers, share_lot(n, numbers))

    def test_lacking_numbers(self):
        for n in range(1, 31):
            numbers = lacking_numbers(n)
            self.assertEqual(numbers, (0,) * (n - 1) + (1,) * (n - 1))
            self.assertIs(share_lot(n, numbers), None)
            for more in (0, 1, 7):
                self.assert_share(n, numbers + (more,), share_lot(n, numbers + (more,)))
        self.assertEqual((lacking_numbers(1), lacking_numbers(2)), ((), (0, 1)))

    def test_edges(self):
        self.assertIs(share_lot(3, (1, 0, 0, 1)), None)
        self.assertEqual(share_lot(2, (5, 2, 7)), (0, 2))
        self.assertIs(share_lot(1, ()), None)
        self.assertIs(share_lot(30, ()), None)
        self.assertEqual(share_lot(1, (-7,)), (0,))
        self.assertIs(share_lot(2, (4,)), None)
        self.assertEqual(share_lot(2, (4, -4)), (0, 1))
        self.assertEqual(share_lot(3, (-1, -1, -1)), (0, 1, 2))

    def test_a_hundred_numbers(self):
        draws = Draws(303)
        for n in (1, 2, 7, 29, 30):
            numbers = tuple(draws.between(-10 ** 20, 10 ** 20) for _ in range(100))
            self.assert_share(n, numbers, share_lot(n, numbers))
        # Only lots of like numbers have a sum that 30 divides here.
        self.assert_share(30, (0,) * 28 + (1,) * 72, share_lot(30, (0,) * 28 + (1,) * 72))
        self.assertIs(share_lot(30, (2,) * 29 + (1,) * 29), None)


if __name__ == "__main__":
    unittest.main()
