"""Point [36]: what choices of unlike elements add up to."""

import unittest

from draws import FIELDS, JUST_SO_MANY, MORE, MORE_COUNT, Draws, far_too_many, only_tuples, plain_choices
from listpicks.sums import least_sum_lists
from listpicks.unlike import fewest_unlike, unlike_choice, unlike_lengths, unlike_sums
from refusing import assert_refused


def plain_unlike(p, lists):
    """The dict of all choices of unlike elements, by their sums."""
    found = {}
    for choice in plain_choices(lists):
        if len(set(choice)) == len(choice):
            found.setdefault(sum(choice) % p if p else sum(choice), []).append(choice)
    return found


class UnlikeSums(unittest.TestCase):
    def test_drawn_lists(self):
        draws = Draws(241)
        empty = 0
        for _ in range(200):
            p, n = draws.one_of(FIELDS), draws.between(1, 4)
            lists = draws.lists(p, draws.lengths(p, n, 4))
            wanted = plain_unlike(p, lists)
            found = unlike_sums(p, lists)
            self.assertEqual(found, tuple(sorted(wanted)))
            self.assertTrue(only_tuples(found))
            empty += not found
            for total in set(range(p) if p else range(-20, 20)) | set(wanted):
                choice = unlike_choice(p, lists, total)
                if total in wanted:
                    self.assertIn(choice, wanted[total])
                else:
                    self.assertIs(choice, None)
            # The fact: never fewer than fewest_unlike.
            lengths = tuple(len(row) for row in lists)
            self.assertGreaterEqual(len(found), fewest_unlike(p, lengths))
        self.assertGreater(empty, 5)

    def test_edges(self):
        self.assertEqual(unlike_sums(0, ((0, 1, 2), (0, 1, 2))), (1, 2, 3))
        self.assertEqual(unlike_sums(5, ((3,),)), (3,))
        self.assertEqual(unlike_choice(5, ((3,),), 3), (3,))
        self.assertIs(unlike_choice(5, ((3,),), 4), None)
        self.assertEqual(unlike_sums(2, ((1,), (1,))), ())
        self.assertIs(unlike_choice(2, ((1,), (1,)), 0), None)
        self.assertEqual(unlike_sums(2, ((0, 1),) * 2), (1,))
        self.assertEqual(unlike_sums(2, ((0, 1),) * 3), ())
        self.assertEqual(unlike_sums(0, ((-5,), (-5, 10 ** 29))), (10 ** 29 - 5,))

    def test_too_many_choices_are_refused(self):
        for p in (0, 13):
            assert_refused(self, MORE_COUNT, lambda: unlike_sums(p, MORE), lambda: unlike_choice(p, MORE, 3))
            assert_refused(self, 12 ** 10, lambda: unlike_sums(p, far_too_many(p)),
                           lambda: unlike_choice(p, far_too_many(p), 3))
        # Also if no choice has unlike elements.
        lists = ((0, 1),) * 2 + ((0, 1, 2, 3, 4),) * 8
        assert_refused(self, 4 * 5 ** 8, lambda: unlike_sums(5, lists), lambda: unlike_choice(5, lists, 1))

    def test_just_so_many(self):
        for p in (0, 11):
            wanted = plain_unlike(p, JUST_SO_MANY)
            self.assertEqual(unlike_sums(p, JUST_SO_MANY), tuple(sorted(wanted)))
            for total in (0, 10, 25, 31):
                self.assertIn(unlike_choice(p, JUST_SO_MANY, total), wanted.get(total, [None]))


class UnlikeLengths(unittest.TestCase):
    def test_drawn_lengths(self):
        draws = Draws(242)
        for _ in range(300):
            lengths = tuple(draws.between(1, 6) for _ in range(draws.between(1, 6)))
            found = unlike_lengths(lengths)
            self.assertTrue(only_tuples(found))
            self.assertEqual(len(found), len(lengths))
            left = None
            # The document's words: from the longest on, of equally long ones the last one first.
            for at in sorted(range(len(lengths)), key=lambda k: (-lengths[k], -k)):
                wanted = lengths[at] if left is None else max(0, min(lengths[at], left - 1))
                self.assertEqual(found[at], wanted)
                left = wanted
            above = [one for one in found if one]
            self.assertEqual(len(set(above)), len(above))

    def test_edges(self):
        self.assertEqual(unlike_lengths((3, 1, 3)), (2, 1, 3))
        self.assertEqual(unlike_lengths((5,)), (5,))
        self.assertEqual(unlike_lengths((1, 1)), (0, 1))
        self.assertEqual(unlike_lengths((1, 1, 1, 1)), (0, 0, 0, 1))
        self.assertEqual(unlike_lengths((2, 2, 2, 7)), (0, 1, 2, 7))
        self.assertEqual(unlike_lengths((12,) * 10), (3, 4, 5, 6, 7, 8, 9, 10, 11, 12))
        self.assertEqual(unlike_lengths((4, 3, 2, 1)), (4, 3, 2, 1))


class FewUnlikeSums(unittest.TestCase):
    def test_least_lists_have_just_so_many(self):
        draws = Draws(243)
        seen = {True: 0, False: 0}
        for _ in range(300):
            p, n = draws.one_of(FIELDS), draws.between(1, 4)
            lengths = draws.lengths(p, n, 5)
            found = fewest_unlike(p, lengths)
            self.assertEqual(len(plain_unlike(p, least_sum_lists(lengths))), found, (p, lengths))
            seen[found == 0] += 1
        self.assertGreater(min(seen.values()), 50)

    def test_like_lists(self):
        for p in FIELDS:
            for n in range(1, 11):
                for k in range(n, 13):
                    if p == 0 or k <= p:
                        wanted = n * k - n * n + 1
                        self.assertEqual(fewest_unlike(p, (k,) * n), min(wanted, p) if p else wanted)

    def test_two_lists(self):
        for p in FIELDS:
            for k in range(1, 13):
                for j in range(1, 13):
                    if p == 0 or max(k, j) <= p:
                        wanted = k + j - 2 if k != j else max(0, 2 * k - 3)
                        self.assertEqual(fewest_unlike(p, (k, j)), min(wanted, p) if p else wanted)

    def test_edges(self):
        self.assertEqual((fewest_unlike(0, (3, 3)), fewest_unlike(7, (4, 4, 4))), (3, 4))
        self.assertEqual((fewest_unlike(0, (1, 1)), fewest_unlike(5, (2, 2, 2)), fewest_unlike(5, (1,))), (0, 0, 1))
        self.assertEqual((fewest_unlike(3, (3, 3)), fewest_unlike(2, (2,)), fewest_unlike(2, (2, 2))), (3, 2, 1))


if __name__ == "__main__":
    unittest.main()
