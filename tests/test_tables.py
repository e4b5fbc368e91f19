"""Points [12] and [13]: tables of worths, and marks."""

import unittest
from fractions import Fraction

from draws import (FIELDS, JUST_SO_MANY, MORE, MORE_COUNT, Draws, all_below, far_too_many, is_told_polynomial,
                   multiplied, number_polynomial, plain_choices, plain_degree, plain_differences, plain_table,
                   plain_worth, row_product, summed)
from listpicks.division import least_form
from listpicks.errors import Refused
from listpicks.tables import form_of, mark_of, table_of


def fraction_form(lists, worths):
    """The only polynomial over the fractions with powers below the lengths and these worths, as a dict."""
    totals = {}
    for choice, one in zip(plain_choices(lists), worths):
        below = plain_differences(0, lists, choice)
        parts = [row_product(0, len(lists), at, tuple(a for a in row if a != choice[at]))
                 for at, row in enumerate(lists)]
        for powers, factor in multiplied(0, *parts):
            totals[powers] = totals.get(powers, 0) + Fraction(one * factor, below)
    return totals


class Tables(unittest.TestCase):
    def test_drawn_tables(self):
        draws = Draws(31)
        for _ in range(150):
            p, n = draws.one_of(FIELDS), draws.between(1, 4)
            lists = draws.lists(p, draws.lengths(p, n, 4))
            f = draws.polynomial(p, n, draws.between(0, 7), draws.one_of((1, 3, 15)))
            table = table_of(p, f, lists)
            self.assertIs(type(table), tuple)
            self.assertEqual(table, plain_table(p, f, lists))
            self.assertEqual(form_of(p, lists, table), least_form(p, f, lists))

    def test_edges(self):
        f = (((0, 1), 2), ((2, 0), 1))
        self.assertEqual(table_of(5, f, ((1, 3), (0, 2))), (1, 0, 4, 3))
        self.assertEqual(table_of(5, (), ((1, 3), (0, 2))), (0, 0, 0, 0))
        self.assertEqual(table_of(0, (((40,), 1),), ((-10 ** 20,),)), (10 ** 800,))
        self.assertEqual(table_of(2, (((1,) * 10, 1),), ((0, 1),) * 10), (0,) * 1023 + (1,))
        self.assertEqual(table_of(0, (((0,), 3), ((2,), 1)), ((0, 1),)), (3, 4))

    def test_drawn_worths_over_primes_always_have_a_form(self):
        draws = Draws(32)
        for _ in range(150):
            p, n = draws.one_of(FIELDS[1:]), draws.between(1, 4)
            lists = draws.lists(p, draws.lengths(p, n, 4))
            worths = tuple(draws.element(p) for _ in plain_choices(lists))
            found = form_of(p, lists, worths)
            self.assertTrue(is_told_polynomial(p, n, found))
            self.assertTrue(all(power < len(row) for powers, _ in found for power, row in zip(powers, lists)))
            self.assertEqual(plain_table(p, found, lists), worths)

    def test_as_many_least_forms_as_tables(self):
        lists = ((0, 2), (1, 2))
        forms = {form_of(3, lists, tuple(table)) for table in all_below((3,) * 4)}
        self.assertEqual(len(forms), 81)

    def test_drawn_worths_over_0(self):
        draws = Draws(33)
        seen = {True: 0, False: 0}
        for _ in range(300):
            n = draws.between(1, 3)
            lists = draws.lists(0, draws.lengths(0, n, 3))
            if draws.below(2):
                worths = plain_table(0, draws.polynomial(0, n, 4, 3), lists)
            else:
                worths = tuple(draws.between(-4, 4) for _ in plain_choices(lists))
            wanted = {powers: factor for powers, factor in fraction_form(lists, worths).items() if factor}
            whole = all(factor.denominator == 1 for factor in wanted.values())
            found = form_of(0, lists, worths)
            seen[whole] += 1
            if not whole:
                self.assertIs(found, None)
                continue
            self.assertEqual(found, tuple(sorted((powers, int(factor)) for powers, factor in wanted.items())))
            self.assertTrue(is_told_polynomial(0, n, found))
        self.assertGreater(min(seen.values()), 50)

    def test_no_form_over_0(self):
        self.assertIs(form_of(0, ((0, 2),), (0, 1)), None)
        self.assertEqual(form_of(0, ((0, 2),), (0, -4)), (((1,), -2),))
        self.assertEqual(form_of(0, ((0, 2),), (0, 0)), ())
        # Worths that are whole, with whole first differences, but a half at the square.
        self.assertIs(form_of(0, ((0, 1, 2),), (0, 0, 1)), None)
        self.assertEqual(form_of(0, ((0, 1, 2),), (0, 0, 2)), (((1,), -1), ((2,), 1)))
        self.assertIs(form_of(0, ((0, 2), (0, 2)), (0, 0, 0, 2)), None)
        self.assertEqual(form_of(0, ((0, 2), (0, 2)), (0, 0, 0, 4)), (((1, 1), 1),))

    def test_the_form_of_a_product(self):
        draws = Draws(34)
        for _ in range(40):
            p = draws.one_of(FIELDS)
            lists = draws.lists(p, draws.lengths(p, 2, 3))
            f, g = draws.polynomial(p, 2, 4, 3), draws.polynomial(p, 2, 4, 3)
            products = [a * b % p if p else a * b for a, b in zip(table_of(p, f, lists), table_of(p, g, lists))]
            self.assertEqual(form_of(p, lists, tuple(products)), least_form(p, multiplied(p, f, g), lists))

    def test_more_are_refused(self):
        for call in (lambda: table_of(13, (), MORE), lambda: table_of(0, (((1,) * 5, 1),), MORE),
                     lambda: form_of(0, MORE, (0,) * MORE_COUNT), lambda: form_of(13, MORE, (1,) * MORE_COUNT)):
            with self.assertRaises(Refused) as caught:
                call()
            self.assertEqual(caught.exception.at, MORE_COUNT)
        with self.assertRaises(Refused) as caught:
            table_of(0, (), far_too_many(0))
        self.assertEqual(caught.exception.at, 12 ** 10)

    def test_just_so_many(self):
        draws = Draws(35)
        for p in (0, 11):
            f = draws.polynomial(p, 5, 20, 1)
            table = table_of(p, f, JUST_SO_MANY)
            self.assertEqual(len(table), 20000)
            for at, choice in list(enumerate(plain_choices(JUST_SO_MANY)))[::997]:
                self.assertEqual(table[at], plain_worth(p, f, choice))
            self.assertEqual(form_of(p, JUST_SO_MANY, table), f)


class Marks(unittest.TestCase):
    def test_drawn_marks(self):
        draws = Draws(36)
        for _ in range(60):
            p, n = draws.one_of(FIELDS), draws.between(1, 3)
            lists = draws.lists(p, draws.lengths(p, n, 4))
            choice = tuple(draws.one_of(row) for row in lists)
            mark = mark_of(p, lists, choice)
            self.assertTrue(is_told_polynomial(p, n, mark))
            parts = [row_product(p, n, at, tuple(one for one in row if one != choice[at]))
                     for at, row in enumerate(lists)]
            self.assertEqual(mark, multiplied(p, *parts))
            top = tuple(len(row) - 1 for row in lists)
            self.assertEqual(dict(mark)[top], 1)
            self.assertEqual(plain_degree(mark), sum(top))
            self.assertEqual(least_form(p, mark, lists), mark)
            for other in plain_choices(lists):
                wanted = plain_differences(p, lists, choice) if other == choice else 0
                self.assertEqual(plain_worth(p, mark, other), wanted)
            self.assertNotEqual(plain_worth(p, mark, choice), 0)

    def test_edges(self):
        self.assertEqual(mark_of(0, ((0, 2), (5, 6)), (2, 5)), (((1, 0), -6), ((1, 1), 1)))
        self.assertEqual(mark_of(5, ((3,), (4,)), (3, 4)), (((0, 0), 1),))
        self.assertEqual(mark_of(2, ((0, 1),) * 10, (1,) * 10), (((1,) * 10, 1),))
        self.assertEqual(len(mark_of(0, JUST_SO_MANY[:4], (0,) * 4)), 10 ** 4)
        self.assertEqual(len(mark_of(0, JUST_SO_MANY[:4], (1,) * 4)), 9 ** 4)

    def test_least_forms_are_sums_of_marks(self):
        draws = Draws(37)
        for _ in range(30):
            p = draws.one_of(FIELDS[1:])
            lists = draws.lists(p, draws.lengths(p, 2, 3))
            f = draws.polynomial(p, 2, 5, 5)
            parts = [()]
            for choice in plain_choices(lists):
                share = plain_worth(p, f, choice) * pow(plain_differences(p, lists, choice), -1, p)
                parts.append(multiplied(p, mark_of(p, lists, choice), number_polynomial(p, 2, share)))
            self.assertEqual(summed(p, *parts), least_form(p, f, lists))


if __name__ == "__main__":
    unittest.main()
