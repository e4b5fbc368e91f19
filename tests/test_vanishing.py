"""Point [14]: papers that sum up to a polynomial."""

import unittest

from draws import (FIELDS, ODD_VALUES, Draws, far_too_many, is_told_polynomial, multiplied, negative, paper_total,
                   plain_degree, plain_table, row_product, summed)
from listpicks.vanishing import is_vanishing_paper, paper_sum, vanishing_paper

LISTS = ((1, 4), (1, 4))
F = (((0, 2), 4), ((2, 0), 1))
PAPER = ((((0, 0), 1),), (((0, 0), 4),))


def drawn_paper(draws, p, lists, many=3, most=2):
    return tuple(draws.polynomial(p, len(lists), many, most) for _ in lists)


class Sums(unittest.TestCase):
    def test_drawn_sums(self):
        draws = Draws(41)
        for _ in range(100):
            p, n = draws.one_of(FIELDS), draws.between(1, 4)
            lists = draws.lists(p, draws.lengths(p, n, 4))
            paper = drawn_paper(draws, p, lists)
            found = paper_sum(p, lists, paper)
            self.assertEqual(found, paper_total(p, lists, paper))
            self.assertTrue(is_told_polynomial(p, n, found))
            if n < 4:
                self.assertFalse(any(plain_table(p, found, lists)))

    def test_edges(self):
        self.assertEqual(paper_sum(5, LISTS, ((((0, 0), 1),), ())), (((0, 0), 4), ((2, 0), 1)))
        self.assertEqual(paper_sum(5, LISTS, ((), ())), ())
        self.assertEqual(paper_sum(5, LISTS, PAPER), F)
        self.assertEqual(paper_sum(0, ((-3,),), ((((1,), 2),),)), (((1,), 6), ((2,), 2)))


class WhatPapersAre(unittest.TestCase):
    def test_good_ones(self):
        self.assertIs(is_vanishing_paper(5, F, LISTS, PAPER), True)
        self.assertIs(is_vanishing_paper(5, (), LISTS, ((), ())), True)
        self.assertIs(is_vanishing_paper(0, (((1,), 6), ((2,), 2)), ((-3,),), ((((1,), 2),),)), True)

    def test_another_sum(self):
        for f in ((), F[:1], F[1:], (((0, 2), 4), ((2, 0), 2)), F + (((2, 1), 1),)):
            self.assertIs(is_vanishing_paper(5, f, LISTS, PAPER), False)
        self.assertIs(is_vanishing_paper(5, F, ((1, 4), (1, 2)), PAPER), False)
        self.assertIs(is_vanishing_paper(5, F, LISTS, PAPER[::-1]), False)

    def test_too_great_degrees(self):
        # The same sum, but multiples of both products that take each other away.
        one, other = row_product(5, 2, 0, LISTS[0]), row_product(5, 2, 1, LISTS[1])
        more = (summed(5, PAPER[0], other), summed(5, PAPER[1], negative(5, one)))
        self.assertEqual(paper_total(5, LISTS, more), F)
        self.assertIs(is_vanishing_paper(5, F, LISTS, more), False)
        self.assertIs(is_vanishing_paper(5, (), LISTS, (other, negative(5, one))), False)
        # Of a polynomial of a greater degree such a paper is one.
        high = summed(5, F, multiplied(5, (((2, 0), 1),), one))
        paper = (summed(5, PAPER[0], (((2, 0), 1),), other), summed(5, PAPER[1], negative(5, one)))
        self.assertIs(is_vanishing_paper(5, high, LISTS, paper), True)
        low = multiplied(5, one, (((0, 1), 1),))
        self.assertIs(is_vanishing_paper(5, low, LISTS, ((((0, 1), 1),), ())), True)
        self.assertIs(is_vanishing_paper(5, low, LISTS, (summed(5, (((0, 1), 1),), other), negative(5, one))), False)

    def test_one_entry_alone_too_great(self):
        # Lists of unlike lengths: each entry has its own greatest degree.
        lists = ((0,), (0, 1, 2))
        one, other = row_product(7, 2, 0, lists[0]), row_product(7, 2, 1, lists[1])
        f = multiplied(7, one, (((0, 2), 1),))
        self.assertIs(is_vanishing_paper(7, f, lists, ((((0, 2), 1),), ())), True)
        self.assertIs(is_vanishing_paper(7, f, lists, (summed(7, (((0, 2), 1),), other), negative(7, one))), False)
        g = summed(7, multiplied(7, one, (((0, 3), 1),)))
        self.assertIs(is_vanishing_paper(7, g, lists, (summed(7, (((0, 3), 1),), other), negative(7, one))), True)

    def test_not_only_some_entries_count(self):
        lists = ((0, 1), (0, 2), (3,))
        one, other = row_product(5, 3, 0, lists[0]), row_product(5, 3, 1, lists[1])
        for paper in ((other, negative(5, one), ()), (), ((), (), ())):
            self.assertIs(is_vanishing_paper(5, (), lists, paper), paper == ((), (), ()))
        f = row_product(5, 3, 2, lists[2])
        good = (((0, 0, 0), 1),)
        self.assertIs(is_vanishing_paper(5, f, lists, ((), (), good)), True)
        self.assertIs(is_vanishing_paper(5, f, lists, (other, negative(5, one), good)), False)

    def test_near_ones(self):
        good = (((0, 0), 1),)
        for entry in (None, [((0, 0), 1)], (((0, 0), True),), (((0, 0), 6),), (((0, 0), 1), ((0, 0), 0)),
                      (((False, 0), 1),), (((0, 0, 0), 1),), (((0,), 1),), ([(0, 0), 1],), (((0, 0), 1.0),),
                      (([0, 0], 1),), (((0, 0), -4),)):
            self.assertIs(is_vanishing_paper(5, F, LISTS, (entry, PAPER[1])), False, entry)
            self.assertIs(is_vanishing_paper(5, F, LISTS, (PAPER[0], entry)), False, entry)
        self.assertIs(is_vanishing_paper(5, F, LISTS, list(PAPER)), False)
        self.assertIs(is_vanishing_paper(5, F, LISTS, PAPER + ((),)), False)
        self.assertIs(is_vanishing_paper(5, F, LISTS, PAPER[:1]), False)
        self.assertIs(is_vanishing_paper(5, F[:0], LISTS, ()), False)
        f = row_product(5, 2, 0, LISTS[0])
        self.assertIs(is_vanishing_paper(5, f, LISTS, (good, ())), True)
        self.assertIs(is_vanishing_paper(5, f, LISTS, (good,)), False)
        self.assertIs(is_vanishing_paper(5, f, LISTS, (good, None)), False)

    def test_unsorted_entries(self):
        entry = (((0, 0), 1), ((1, 0), 1))
        f = multiplied(5, entry, row_product(5, 2, 0, LISTS[0]))
        self.assertIs(is_vanishing_paper(5, f, LISTS, (entry, ())), True)
        self.assertIs(is_vanishing_paper(5, f, LISTS, (entry[::-1], ())), False)
        halves = (((0, 0), 1), ((1, 0), 3), ((1, 0), 3))
        self.assertIs(is_vanishing_paper(5, f, LISTS, (halves, ())), False)

    def test_powers_above_40(self):
        # 0 times what is too high: the sum fits, the entries are no polynomials.
        one, other = row_product(2, 2, 0, (0,)), row_product(2, 2, 1, (0,))
        high = (((0, 41), 1),)
        paper = (multiplied(2, other, high), multiplied(2, one, high))
        f = (((40, 40), 1),)
        good = ((((39, 40), 1),), ())
        self.assertIs(is_vanishing_paper(2, f, ((0,), (0,)), good), True)
        self.assertEqual(paper_total(2, ((0,), (0,)), (summed(2, good[0], paper[0]), paper[1])), f)
        self.assertIs(is_vanishing_paper(2, f, ((0,), (0,)), (summed(2, good[0], paper[0]), paper[1])), False)

    def test_values_of_every_kind(self):
        for value in ODD_VALUES + ((), ((),), ((), (), ())):
            self.assertIs(is_vanishing_paper(5, F, LISTS, value), False, value)
            self.assertIs(is_vanishing_paper(5, (), LISTS, value), False, value)


class PapersFound(unittest.TestCase):
    def test_drawn_papers(self):
        draws = Draws(42)
        seen = {True: 0, False: 0}
        for _ in range(200):
            p, n = draws.one_of(FIELDS), draws.between(1, 3)
            lists = draws.lists(p, draws.lengths(p, n, 3))
            f = draws.polynomial(p, n, draws.between(0, 6), draws.one_of((1, 4)))
            if draws.below(2):
                f = paper_total(p, lists, drawn_paper(draws, p, lists))
            vanishes = not any(plain_table(p, f, lists))
            found = vanishing_paper(p, f, lists)
            seen[vanishes] += 1
            self.assertIs(found is not None, vanishes)
            if vanishes:
                self.assertEqual(len(found), n)
                self.assertTrue(all(is_told_polynomial(p, n, entry) for entry in found))
                self.assertEqual(paper_total(p, lists, found), f)
                for entry, row in zip(found, lists):
                    self.assertTrue(entry == () or plain_degree(entry) <= plain_degree(f) - len(row))
                self.assertIs(is_vanishing_paper(p, f, lists, found), True)
        self.assertGreater(min(seen.values()), 50)

    def test_edges(self):
        self.assertEqual(vanishing_paper(5, (), LISTS), ((), ()))
        self.assertIs(vanishing_paper(5, (((0, 0), 1),), LISTS), None)
        self.assertEqual(vanishing_paper(2, (((1,), 1), ((2,), 1)), ((0, 1),)), ((((0,), 1),),))
        self.assertEqual(vanishing_paper(0, (((1,), 1),), ((0,),)), ((((0,), 1),),))

    def test_far_more_choices_than_could_be_gone_through(self):
        for p in (0, 13):
            lists = far_too_many(p)
            f = summed(p, multiplied(p, (((1,) * 10, 1),), row_product(p, 10, 2, lists[2])),
                       row_product(p, 10, 9, lists[9]))
            found = vanishing_paper(p, f, lists)
            self.assertEqual(paper_total(p, lists, found), f)
            self.assertIs(is_vanishing_paper(p, f, lists, found), True)
            self.assertIs(vanishing_paper(p, summed(p, f, (((11,) * 10, 1),)), lists), None)


if __name__ == "__main__":
    unittest.main()
