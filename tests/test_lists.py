"""Points [8] and [9]: lists, choices, and those at which a polynomial isn't 0."""

import copy
import unittest

from draws import (FIELDS, JUST_SO_MANY, MORE, MORE_COUNT, ODD_VALUES, Draws, far_too_many, is_told_polynomial,
                   plain_choices, plain_table, plain_worth, row_product)
from listpicks.errors import InvalidLists, Refused
from listpicks.lists import are_lists, choice_count, choices, first_pick, list_product, lists_of, picks


class WhatListsAre(unittest.TestCase):
    def test_good_ones(self):
        for p, value in ((5, ((1, 3), (1,))), (0, ((-4, 0, 10 ** 29),)), (2, ((0, 1),) * 10), (2, ((0,),)),
                         (101, (tuple(range(12)), (100,))), (13, (tuple(range(1, 13)),))):
            self.assertIs(are_lists(p, value), True, value)

    def test_wrong_rows(self):
        for row in ((), [1, 2], (2, 1), (1, 1), (0, 1, 1), (5,), (-1,), (True,), (0, True), (1.0,), ("1",), (None,),
                    1, None, "12", (0, 1, 2, 3, 4, 5), {1: 2}, {1}, range(2), ((1,),)):
            self.assertIs(are_lists(5, (row,)), False, row)
            self.assertIs(are_lists(5, ((1, 2), row)), False, row)
            self.assertIs(are_lists(5, (row, (1, 2))), False, row)

    def test_wrong_lengths(self):
        self.assertIs(are_lists(0, (tuple(range(12)),)), True)
        self.assertIs(are_lists(0, (tuple(range(13)),)), False)
        self.assertIs(are_lists(0, ((1,),) * 10), True)
        self.assertIs(are_lists(0, ((1,),) * 11), False)
        self.assertIs(are_lists(0, ()), False)
        self.assertIs(are_lists(0, [(1,)]), False)
        self.assertIs(are_lists(0, ((False,),)), False)
        self.assertIs(are_lists(0, ((2, 1),)), False)

    def test_values_of_every_kind(self):
        for value in ODD_VALUES:
            self.assertIs(are_lists(5, value), False, value)
            self.assertIs(are_lists(0, value), False, value)


class ListsMade(unittest.TestCase):
    def test_put_in_order_without_doubles(self):
        self.assertEqual(lists_of(5, [[3, 1, 1], [1]]), ((1, 3), (1,)))
        self.assertEqual(lists_of(0, ((3, -1, 3, 10 ** 29),)), ((-1, 3, 10 ** 29),))
        self.assertEqual(lists_of(0, [[7] * 12, (5, 4)]), ((7,), (4, 5)))
        self.assertEqual(lists_of(0, [list(range(11, -1, -1))] * 10), (tuple(range(12)),) * 10)
        self.assertEqual(lists_of(2, [(1, 0, 1, 0)]), ((0, 1),))

    def test_the_first_wrong_row_is_told(self):
        for wrong in ((), [], [5], (-1,), (True,), [False], (1.0,), ("1",), "1", None, 3, {1}, {1: 1}, range(2),
                      [1] * 13, (1, 2, None), ((1,),), b"1"):
            for ahead in range(3):
                with self.assertRaises(InvalidLists) as caught:
                    lists_of(5, [[1]] * ahead + [wrong, [2], None])
                self.assertEqual(caught.exception.at, ahead, wrong)

    def test_what_is_no_sequence_of_so_many(self):
        for rows in ((), [], [[1]] * 11, ((1,),) * 12, None, 3, "12", b"12", {1: (1,)}, set(), range(1, 3), iter([(1,)]),
                     True, object()):
            with self.assertRaises(InvalidLists) as caught:
                lists_of(5, rows)
            self.assertEqual(caught.exception.at, 0)
        with self.assertRaises(InvalidLists) as caught:
            lists_of(5, [[1]] * 10 + [None])
        self.assertEqual(caught.exception.at, 0)

    def test_doubles_are_counted(self):
        self.assertEqual(lists_of(0, [[1] * 12]), ((1,),))
        self.assertRaises(InvalidLists, lists_of, 0, [[1] * 13])
        self.assertRaises(InvalidLists, lists_of, 0, [[1, 2] * 6 + [1]])

    def test_arguments_stay(self):
        rows = [[3, 1, 1], [1]]
        before = copy.deepcopy(rows)
        found = lists_of(5, rows)
        self.assertEqual(rows, before)
        rows[0].append(4)
        rows.clear()
        self.assertEqual(found, ((1, 3), (1,)))

    def test_drawn_rows(self):
        draws = Draws(11)
        for _ in range(100):
            p = draws.one_of(FIELDS)
            rows = [[draws.element(p) for _ in range(draws.between(1, 12))] for _ in range(draws.between(1, 10))]
            found = lists_of(p, rows)
            self.assertEqual(found, tuple(tuple(sorted(set(row))) for row in rows))
            self.assertIs(are_lists(p, found), True)


class Choices(unittest.TestCase):
    def test_all_of_them_ascending(self):
        self.assertEqual(choices(((1, 3), (2,), (0, 5))), ((1, 2, 0), (1, 2, 5), (3, 2, 0), (3, 2, 5)))
        self.assertEqual(choices(((4,),)), ((4,),))
        self.assertEqual(choices(((-2, 0, 7),)), ((-2,), (0,), (7,)))
        draws = Draws(12)
        for _ in range(50):
            p = draws.one_of(FIELDS)
            lists = draws.lists(p, draws.lengths(p, draws.between(1, 5), 4))
            found = choices(lists)
            self.assertEqual(list(found), plain_choices(lists))
            self.assertEqual(list(found), sorted(set(found)))
            self.assertEqual(len(found), choice_count(lists))

    def test_counts(self):
        self.assertEqual(choice_count(((1,),)), 1)
        self.assertEqual(choice_count(((1, 2), (1, 2, 3), (4,))), 6)
        self.assertEqual(choice_count(JUST_SO_MANY), 20000)
        self.assertEqual(choice_count(MORE), MORE_COUNT)
        self.assertEqual(choice_count(far_too_many(0)), 12 ** 10)

    def test_just_so_many(self):
        found = choices(JUST_SO_MANY)
        self.assertEqual((len(found), found[0], found[-1]), (20000, (0,) * 5, (9, 9, 9, 9, 1)))

    def test_more_are_refused(self):
        f = (((1,) + (0,) * 4, 1),)
        for call in (lambda: choices(MORE), lambda: picks(0, f, MORE), lambda: first_pick(0, f, MORE),
                     lambda: picks(13, (), MORE), lambda: first_pick(13, (), MORE)):
            with self.assertRaises(Refused) as caught:
                call()
            self.assertEqual(caught.exception.at, MORE_COUNT)
        for call in (lambda: choices(far_too_many(13)), lambda: picks(13, (), far_too_many(13)),
                     lambda: first_pick(13, (((0,) * 10, 1),), far_too_many(13))):
            with self.assertRaises(Refused) as caught:
                call()
            self.assertEqual(caught.exception.at, 12 ** 10)


class ListProducts(unittest.TestCase):
    def test_drawn_products(self):
        draws = Draws(13)
        for _ in range(100):
            p, n = draws.one_of(FIELDS), draws.between(1, 4)
            at = draws.below(n)
            row = draws.row(p, draws.lengths(p, 1, 12)[0])
            found = list_product(p, n, at, row)
            self.assertEqual(found, row_product(p, n, at, row))
            self.assertTrue(is_told_polynomial(p, n, found))
            choice = [draws.element(p) for _ in range(n)]
            for one in list(row) + [draws.element(p) for _ in range(5)]:
                choice[at] = one
                self.assertIs(plain_worth(p, found, choice) == 0, one in row)

    def test_edges(self):
        self.assertEqual(list_product(5, 2, 0, (1, 3)), (((0, 0), 3), ((1, 0), 1), ((2, 0), 1)))
        self.assertEqual(list_product(0, 1, 0, (0,)), (((1,), 1),))
        self.assertEqual(list_product(2, 2, 1, (0, 1)), (((0, 1), 1), ((0, 2), 1)))
        self.assertEqual(list_product(101, 1, 0, (100,)), (((0,), 1), ((1,), 1)))
        self.assertEqual(list_product(0, 10, 9, (-1, 1)), (((0,) * 10, -1), ((0,) * 9 + (2,), 1)))


class Conditions(unittest.TestCase):
    def test_drawn_conditions(self):
        draws = Draws(14)
        for _ in range(200):
            p, n = draws.one_of(FIELDS), draws.between(1, 4)
            lists = draws.lists(p, draws.lengths(p, n, 4))
            f = draws.polynomial(p, n, draws.between(0, 5), draws.one_of((1, 3, 9)))
            found = tuple(choice for choice in plain_choices(lists) if plain_worth(p, f, choice))
            self.assertEqual(picks(p, f, lists), found)
            self.assertEqual(first_pick(p, f, lists), found[0] if found else None)

    def test_the_first_pick_stands_far_behind(self):
        lists = ((0, 1, 2), (1, 2), (0, 3))
        f = row_product(0, 3, 0, (0, 1))
        self.assertEqual(first_pick(0, f, lists), (2, 1, 0))
        g = row_product(0, 3, 2, (0,))
        self.assertEqual(first_pick(0, g, lists), (0, 1, 3))
        mixed = (((1, 0, 0), 1), ((0, 0, 1), -1))
        self.assertEqual(first_pick(0, tuple(sorted(mixed)), lists), (0, 1, 3))

    def test_none_and_all(self):
        lists = ((1, 2), (3,))
        self.assertEqual((picks(5, (), lists), first_pick(5, (), lists)), ((), None))
        self.assertEqual((picks(5, (((0, 0), 2),), lists), first_pick(5, (((0, 0), 2),), lists)),
                         (((1, 3), (2, 3)), (1, 3)))
        self.assertEqual(first_pick(5, row_product(5, 2, 0, (1, 2)), lists), None)
        self.assertEqual(first_pick(2, (((1,), 1), ((2,), 1)), ((0, 1),)), None)

    def test_just_so_many_are_gone_through(self):
        f = row_product(101, 5, 0, tuple(range(9)))
        found = picks(101, f, JUST_SO_MANY)
        self.assertEqual((len(found), found[0], found[-1]), (2000, (9, 0, 0, 0, 0), (9, 9, 9, 9, 1)))
        self.assertEqual(first_pick(101, f, JUST_SO_MANY), (9, 0, 0, 0, 0))
        self.assertEqual(first_pick(0, row_product(0, 5, 4, (0, 1)), JUST_SO_MANY), None)

    def test_many_terms_and_many_choices(self):
        draws = Draws(15)
        lists = draws.lists(101, (6, 6, 5, 5, 4))
        f = draws.polynomial(101, 5, 700, 40)
        chosen = plain_choices(lists)[::97]
        found = picks(101, f, lists)
        for choice in chosen:
            self.assertIs(choice in found, plain_worth(101, f, choice) != 0)
        self.assertEqual(first_pick(101, f, lists), found[0])

    def test_small_powers_and_like_worths(self):
        # Facts of [9]: with all powers below p, polynomials with like worths everywhere are equal.
        for p in (2, 3):
            everywhere = (tuple(range(p)),) * 2
            draws, tables = Draws(16), {}
            for _ in range(200):
                f = draws.polynomial(p, 2, 4, p - 1)
                self.assertEqual(tables.setdefault(plain_table(p, f, everywhere), f), f)
        self.assertEqual(picks(3, (((1,), 2), ((3,), 1)), ((0, 1, 2),)), ())


if __name__ == "__main__":
    unittest.main()
