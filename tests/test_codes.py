"""Points [26] and [27]: tables by degree, and their checks."""

import unittest

from draws import (ODD_VALUES, Draws, all_below, divided_worth, far_too_many, plain_choices, plain_differences,
                   plain_table)
from listpicks.codes import check_sums, code_powers, is_code_table
from listpicks.errors import Refused
from listpicks.fewpicks import least_picks
from small_codes import LARGE, LARGE_LISTS, LARGEST_LISTS, PRIMES, SMALL, code


class Powers(unittest.TestCase):
    def test_drawn_lengths(self):
        draws = Draws(111)
        for _ in range(60):
            lengths = tuple(draws.between(1, 4) for _ in range(draws.between(1, 4)))
            for d in range(-3, sum(lengths) + 2):
                wanted = tuple(powers for powers in all_below(lengths) if sum(powers) <= d)
                self.assertEqual(code_powers(lengths, d), wanted)

    def test_edges(self):
        self.assertEqual((code_powers((2, 3), -1), code_powers((2, 3), -10 ** 9)), ((), ()))
        self.assertEqual(code_powers((2, 3), 0), ((0, 0),))
        self.assertEqual(code_powers((1,) * 10, 0), ((0,) * 10,))
        self.assertEqual(len(code_powers((4,) * 4, 10 ** 9)), 256)
        self.assertEqual(len(code_powers((2,) * 8, 8)), 256)

    def test_more_are_refused(self):
        for d in (-1, 0, 5):
            for lengths, count in (LARGE, ((12,) * 10, 12 ** 10), ((2,) * 9, 512)):
                with self.assertRaises(Refused) as caught:
                    code_powers(lengths, d)
                self.assertEqual(caught.exception.at, count)


class Checks(unittest.TestCase):
    def test_drawn_sums(self):
        draws = Draws(112)
        for _ in range(100):
            p, n = draws.one_of(PRIMES), draws.between(1, 3)
            lists = draws.lists(p, draws.lengths(p, n, 4))
            lengths = tuple(len(row) for row in lists)
            most = sum(lengths) - n
            table = tuple(draws.element(p) for _ in plain_choices(lists))
            for d in range(-1, most + 2):
                wanted = []
                for powers in all_below(lengths):
                    if sum(powers) <= most - 1 - d:
                        total = 0
                        for one, choice in zip(table, plain_choices(lists)):
                            for a, power in zip(choice, powers):
                                one *= a ** power
                            total += divided_worth(p, one, plain_differences(p, lists, choice))
                        wanted.append(total % p)
                self.assertEqual(check_sums(p, lists, d, table), tuple(wanted))

    def test_edges(self):
        lists = ((0, 1), (0, 1, 2))
        self.assertEqual(check_sums(3, lists, 1, (0, 1, 2, 1, 2, 0)), (0, 0, 0))
        self.assertEqual(check_sums(3, lists, 3, (0, 1, 2, 1, 2, 0)), ())
        self.assertEqual(check_sums(3, lists, 10 ** 9, (1,) * 6), ())
        self.assertEqual(len(check_sums(3, lists, -1, (1,) * 6)), 6)
        self.assertEqual((check_sums(5, ((3,),), -1, (2,)), check_sums(5, ((3,),), 0, (2,))), ((2,), ()))

    def test_a_table_is_a_code_table_exactly_if_all_are_0(self):
        for p, lists in SMALL:
            for d in range(-1, sum(len(row) for row in lists) - len(lists) + 2):
                tables = code(p, lists, d)
                for table in all_below((p,) * len(plain_choices(lists))):
                    self.assertIs(not any(check_sums(p, lists, d, table)), table in tables)
                    self.assertIs(is_code_table(p, lists, d, table), table in tables)


class CodeTables(unittest.TestCase):
    def test_how_many_and_how_unlike(self):
        for p, lists in SMALL:
            lengths = tuple(len(row) for row in lists)
            for d in range(-1, sum(lengths) - len(lists) + 2):
                tables = code(p, lists, d)
                self.assertEqual(len(tables), p ** len(code_powers(lengths, d)))
                unlike = [sum(1 for one in table if one) for table in tables if any(table)]
                if d >= 0:
                    self.assertEqual(min(unlike), least_picks(lengths, d))

    def test_drawn_tables(self):
        draws = Draws(113)
        for _ in range(100):
            p, n = draws.one_of(PRIMES), draws.between(1, 4)
            lists = draws.lists(p, draws.lengths(p, n, 4))
            f = draws.polynomial(p, n, 4, 3)
            d = max((sum(powers) for powers, _ in f), default=-1)
            table = plain_table(p, f, lists)
            self.assertIs(is_code_table(p, lists, d, table), True)
            self.assertIs(is_code_table(p, lists, d + 1, table), True)
            if d < sum(len(row) - 1 for row in lists):
                at = draws.below(len(table))
                wrong = table[:at] + ((table[at] + 1) % p,) + table[at + 1:]
                if d >= 0 and least_picks(tuple(len(row) for row in lists), d) > 1:
                    self.assertIs(is_code_table(p, lists, d, wrong), False)

    def test_d_below_0(self):
        lists = ((0, 1), (0, 2))
        self.assertIs(is_code_table(3, lists, -1, (0,) * 4), True)
        for at in range(4):
            self.assertIs(is_code_table(3, lists, -1, (0,) * at + (1,) + (0,) * (3 - at)), False)
        self.assertIs(is_code_table(3, lists, -1, (1,) * 4), False)
        self.assertIs(is_code_table(3, lists, 0, (1,) * 4), True)

    def test_near_ones(self):
        lists = ((0, 1), (0, 1, 2))
        for d in (1, 3, 100):
            self.assertIs(is_code_table(3, lists, d, (0, 1, 2, 1, 2, 0)), True)
            for value in ([0, 1, 2, 1, 2, 0], (0, True, 2, 1, 2, 0), (False, 1, 2, 1, 2, 0), (0, 1, 2, 1, 2),
                          (0, 1, 2, 1, 2, 0, 0), (0, 1, 2, 1, 2, 3), (0, 1, 2, 1, -1, 0), (0, 1.0, 2, 1, 2, 0),
                          (0, 1, 2, 1, 2, None), ((0, 1, 2), (1, 2, 0)), "012120", ("0", 1, 2, 1, 2, 0), (), None):
                self.assertIs(is_code_table(3, lists, d, value), False, value)
        self.assertIs(is_code_table(3, lists, 0, (0, 1, 2, 1, 2, 0)), False)

    def test_values_of_every_kind(self):
        for value in ODD_VALUES:
            self.assertIs(is_code_table(5, ((0, 1), (3, 4)), 2, value), False, value)
        for value in ODD_VALUES:
            if value != (1, 2, 3):
                self.assertIs(is_code_table(5, ((0, 1, 4),), 2, value), False, value)
        self.assertIs(is_code_table(5, ((0, 1, 4),), 2, (1, 2, 3)), True)

    def test_more_are_refused(self):
        table = (0,) * 264
        for call in (lambda: check_sums(13, LARGE_LISTS, 0, table), lambda: is_code_table(13, LARGE_LISTS, 0, table),
                     lambda: is_code_table(13, LARGE_LISTS, -1, None), lambda: is_code_table(13, LARGE_LISTS, 50, ())):
            with self.assertRaises(Refused) as caught:
                call()
            self.assertEqual(caught.exception.at, 264)
        with self.assertRaises(Refused) as caught:
            check_sums(13, far_too_many(13), 0, ())
        self.assertEqual(caught.exception.at, 12 ** 10)

    def test_just_so_many(self):
        draws = Draws(114)
        f = draws.polynomial(11, 4, 20, 2)
        table = plain_table(11, f, LARGEST_LISTS)
        self.assertEqual(len(table), 256)
        self.assertIs(is_code_table(11, LARGEST_LISTS, 8, table), True)
        self.assertIs(is_code_table(11, LARGEST_LISTS, 8, table[:-1] + ((table[-1] + 1) % 11,)), False)
        self.assertEqual(len(check_sums(11, LARGEST_LISTS, -1, table)), 256)


if __name__ == "__main__":
    unittest.main()
