"""Points [22] and [23]: choices led to list by list."""

import unittest

from draws import FIELDS, Draws, far_too_many, only_tuples, plain_degree, plain_worth, row_product, summed
from listpicks.division import least_form
from listpicks.leading import led, sure_choice
from listpicks.polynomials import factor_of, put_in
from listpicks.surelists import is_sure, shortened, sure_powers


def plainly_led(p, f, lists):
    """As [22] tells it, word by word."""
    n = len(lists)
    top = tuple(len(row) - 1 for row in lists)
    form = least_form(p, f, lists)
    if factor_of(form, top) == 0:
        return None
    found = []
    for at, row in enumerate(lists):
        for one in row:
            come = put_in(p, form, at, one)
            factor = factor_of(come, (0,) * (at + 1) + top[at + 1:])
            if factor:
                break
        found.append((one, factor))
        form = come
    assert len(found) == n
    return tuple(found)


class Led(unittest.TestCase):
    def test_drawn_ones(self):
        draws = Draws(91)
        seen = {True: 0, False: 0}
        later = 0
        for _ in range(300):
            p, n = draws.one_of(FIELDS), draws.between(1, 4)
            lists = draws.lists(p, draws.lengths(p, n, 4))
            f = draws.polynomial(p, n, draws.between(0, 9), draws.one_of((1, 3, 7)))
            wanted = plainly_led(p, f, lists)
            found = led(p, f, lists)
            seen[wanted is None] += 1
            self.assertEqual(found, wanted)
            if found is not None:
                self.assertTrue(only_tuples(found))
                choice = tuple(one for one, _ in found)
                self.assertTrue(all(one in row for one, row in zip(choice, lists)))
                self.assertNotEqual(found[-1][1], 0)
                self.assertEqual(found[-1][1], plain_worth(p, f, choice))
                self.assertTrue(all(factor != 0 for _, factor in found))
                later += any(one != row[0] for one, row in zip(choice, lists))
        self.assertGreater(min(seen.values()), 50)
        self.assertGreater(later, 10)

    def test_edges(self):
        f = (((0, 2), 1), ((1, 1), 2), ((2, 0), 1))
        self.assertEqual(led(5, f, ((1, 4), (1, 4))), ((1, 2), (1, 4)))
        self.assertIs(led(5, f, ((0, 1, 2), (0, 1))), None)
        self.assertIs(led(5, (), ((1, 2), (3,))), None)
        self.assertEqual(led(5, (((0, 0), 3),), ((1,), (2,))), ((1, 3), (2, 3)))
        self.assertIs(led(5, (((0, 0), 3),), ((1,), (2, 3))), None)
        self.assertIs(led(2, (((1,), 1),), ((0,),)), None)
        self.assertEqual(led(2, (((1,), 1),), ((0, 1),)), ((1, 1),))
        self.assertEqual(led(0, (((2, 1), -7),), ((-1, 0, 1), (0, 5))), ((-1, -7), (5, -35)))

    def test_choices_where_a_coefficient_tells_nothing(self):
        # There are choices, but the factor of the top is 0.
        self.assertIs(led(5, (((1,), 1),), ((1, 2, 3),)), None)
        self.assertIs(led(0, (((0, 0), 1),), ((1, 2), (3,))), None)

    def test_the_factor_of_the_top_not_the_worth_counts(self):
        # At the first element the polynomial isn't 0, but the factor of the top is.
        f = (((0, 0), 1), ((1, 1), 1))
        self.assertEqual(led(0, f, ((0, 1), (0, 1))), ((1, 1), (0, 1)))

    def test_far_more_choices_than_could_be_gone_through(self):
        for p in (0, 13, 101):
            lists = far_too_many(p)
            f = summed(p, (((11,) * 10, 1),), (((2,) * 10, 1),), row_product(p, 10, 7, lists[7]))
            found = led(p, f, lists)
            choice = tuple(one for one, _ in found)
            self.assertTrue(all(one in row for one, row in zip(choice, lists)))
            self.assertEqual(found[-1][1], plain_worth(p, f, choice))
            self.assertNotEqual(found[-1][1], 0)
            self.assertIs(led(p, summed(p, f, (((11,) * 10, -1),)), lists), None)


class SureChoices(unittest.TestCase):
    def test_drawn_ones(self):
        draws = Draws(92)
        asked = 0
        for _ in range(300):
            p, n = draws.one_of(FIELDS), draws.between(1, 4)
            lists = draws.lists(p, draws.lengths(p, n, 4))
            f = draws.polynomial(p, n, draws.between(1, 6), draws.one_of((1, 2)))
            lengths = tuple(len(row) for row in lists)
            for powers in [powers for powers, _ in f if is_sure(f, lengths, powers)]:
                found = sure_choice(p, f, lists, powers)
                asked += 1
                self.assertTrue(only_tuples(found))
                self.assertEqual(found, tuple(one for one, _ in plainly_led(p, f, shortened(lists, powers))))
                self.assertNotEqual(plain_worth(p, f, found), 0)
                for one, row, power in zip(found, lists, powers):
                    self.assertIn(one, row[:power + 1])
                # It hangs on the first elements alone.
                self.assertEqual(sure_choice(p, f, shortened(lists, powers), powers), found)
        self.assertGreater(asked, 100)

    def test_edges(self):
        f = (((0, 2), 1), ((1, 1), 2), ((2, 0), 1))
        self.assertEqual(sure_choice(5, f, ((1, 2, 4), (3,)), (2, 0)), (1, 3))
        self.assertEqual(sure_choice(5, (((0, 0), 2),), ((4,), (1, 3)), (0, 0)), (4, 1))
        g = (((0, 1), -1), ((1, 0), 1))
        self.assertEqual(sure_choice(0, g, ((1, 2), (1, 2)), (1, 0)), (2, 1))
        self.assertEqual(sure_choice(0, g, ((1, 2), (1, 2)), (0, 1)), (1, 2))

    def test_far_more_choices_than_could_be_gone_through(self):
        for p in (0, 13):
            lists = far_too_many(p)
            f = summed(p, (((8,) * 5 + (0,) * 5, 1),), (((0,) * 5 + (8,) * 5, 3),), (((1,) * 10, 5),))
            lengths = (12,) * 10
            self.assertIsNot(sure_powers(f, lengths), None)
            for powers in ((8,) * 5 + (0,) * 5, (0,) * 5 + (8,) * 5):
                self.assertEqual(sum(powers), plain_degree(f))
                self.assertNotEqual(plain_worth(p, f, sure_choice(p, f, lists, powers)), 0)


if __name__ == "__main__":
    unittest.main()
