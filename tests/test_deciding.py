"""Point [15]: just one of a choice and a paper."""

import unittest

from draws import (FIELDS, JUST_SO_MANY, MORE, ODD_VALUES, Draws, far_too_many, multiplied, negative, only_tuples,
                   paper_total, plain_choices, plain_table, plain_worth, row_product, summed)
from listpicks.deciding import decided, is_decision
from listpicks.vanishing import is_vanishing_paper

LISTS = ((1, 4), (1, 2))
F = (((0, 2), 4), ((2, 0), 1))


class Decided(unittest.TestCase):
    def check(self, p, f, lists, vanishes):
        found = decided(p, f, lists)
        self.assertTrue(only_tuples(found))
        word, evidence = found
        self.assertEqual(word, "paper" if vanishes else "pick")
        if vanishes:
            self.assertIs(is_vanishing_paper(p, f, lists, evidence), True)
            self.assertEqual(paper_total(p, lists, evidence), f)
        else:
            self.assertTrue(all(one in row for one, row in zip(evidence, lists)))
            self.assertEqual(len(evidence), len(lists))
            self.assertNotEqual(plain_worth(p, f, evidence), 0)
        self.assertIs(is_decision(p, f, lists, found), True)
        return found

    def test_drawn_ones(self):
        draws = Draws(51)
        seen = {True: 0, False: 0}
        for _ in range(300):
            p, n = draws.one_of(FIELDS), draws.between(1, 4)
            lists = draws.lists(p, draws.lengths(p, n, 3))
            f = draws.polynomial(p, n, draws.between(0, 5), draws.one_of((1, 3, 6)))
            if draws.below(2):
                f = paper_total(p, lists, tuple(draws.polynomial(p, n, 2, 2) for _ in lists))
                if draws.below(3) == 0:
                    f = summed(p, f, draws.polynomial(p, n, 1, 1))
            table = plain_table(p, f, lists)
            vanishes = not any(table)
            seen[vanishes] += 1
            self.check(p, f, lists, vanishes)
            for choice, one in zip(plain_choices(lists), table):
                self.assertIs(is_decision(p, f, lists, ("pick", choice)), one != 0)
        self.assertGreater(min(seen.values()), 80)

    def test_just_one_choice_is_left(self):
        draws = Draws(52)
        for p in (0, 2, 5, 101):
            for _ in range(20):
                n = draws.between(1, 4)
                lists = draws.lists(p, draws.lengths(p, n, 4))
                choice = tuple(draws.one_of(row) for row in lists)
                parts = [row_product(p, n, at, tuple(one for one in row if one != choice[at]))
                         for at, row in enumerate(lists)]
                found = self.check(p, multiplied(p, *parts), lists, False)
                self.assertEqual(found, ("pick", choice))

    def test_edges(self):
        self.assertEqual(decided(5, F, ((1,), (1, 2))), ("pick", (1, 2)))
        self.assertEqual(decided(5, (), ((1,), (1, 2))), ("paper", ((), ())))
        self.check(5, (((0, 0), 3),), LISTS, False)
        self.check(2, (((0,), 1),), ((0,),), False)
        self.check(2, (((1,), 1),), ((0,),), True)
        self.check(0, (((1,), 5), ((0,), -10))[::-1], ((2,),), True)
        self.check(101, (((40,) * 10, 1),), ((0, 100),) * 10, False)
        self.check(0, (((40,), 1), ((39,), -1))[::-1], ((0, 1),), True)

    def test_more_choices_than_others_go_through(self):
        for p in (0, 13, 101):
            self.check(p, row_product(p, 5, 1, tuple(range(11))), MORE, False)
            self.check(p, row_product(p, 5, 1, tuple(range(12))), MORE, True)
            self.check(p, row_product(p, 5, 4, (0,)), JUST_SO_MANY, False)

    def test_no_choices_are_gone_through(self):
        for p in (0, 13, 101):
            lists = far_too_many(p)
            last = tuple(row[-1] for row in lists)
            f = ()
            for at in (0, 4, 9):
                f = summed(p, f, multiplied(p, row_product(p, 10, at, lists[at]), (((1,) * 10, 1),)))
            self.check(p, f, lists, True)
            self.check(p, summed(p, f, (((11,) * 10, 1),)), lists, False)
            hidden = multiplied(p, *[row_product(p, 10, at, lists[at][:-1]) for at in (0, 5, 9)])
            found = self.check(p, hidden, lists, False)
            self.assertEqual([found[1][at] for at in (0, 5, 9)], [last[at] for at in (0, 5, 9)])

    def test_asked_again(self):
        for f in (F, (), (((3, 2), 1),)):
            self.assertEqual(decided(5, f, LISTS), decided(5, f, LISTS))


class WhatDecisionsAre(unittest.TestCase):
    def test_picks(self):
        self.assertIs(is_decision(5, F, LISTS, ("pick", (4, 2))), True)
        self.assertIs(is_decision(5, F, LISTS, ("pick", (1, 2))), True)
        for choice in ((1, 1), (4, 1), (2, 2), (1, 3), (4, 7), (-1, 2), (1,), (1, 2, 2), (), [4, 2], (4.0, 2), (4, "2"),
                       (True, 2), (1, None), ((4,), (2,)), None, 4, "42", {4: 2}):
            self.assertIs(is_decision(5, F, LISTS, ("pick", choice)), False, choice)
        self.assertIs(is_decision(2, (((1,), 1),), ((0, 1),), ("pick", (1,))), True)
        self.assertIs(is_decision(2, (((1,), 1),), ((0, 1),), ("pick", (True,))), False)
        self.assertIs(is_decision(0, (((0,), 1),), ((0,),), ("pick", (False,))), False)

    def test_papers(self):
        lists = ((1, 4), (1, 4))
        paper = ((((0, 0), 1),), (((0, 0), 4),))
        self.assertIs(is_decision(5, F, lists, ("paper", paper)), True)
        one, other = row_product(5, 2, 0, lists[0]), row_product(5, 2, 1, lists[1])
        great = (summed(5, paper[0], other), summed(5, paper[1], negative(5, one)))
        for wrong in (paper[::-1], list(paper), paper[:1], paper + ((),), great, (paper[0], None), None, (),
                      ((((0, 0), True),), paper[1])):
            self.assertIs(is_decision(5, F, lists, ("paper", wrong)), False, wrong)
        for word in ("pick", "papers", "Paper", "", b"paper", None, True, 0, ("paper",), ["paper"]):
            self.assertIs(is_decision(5, F, lists, (word, paper)), False, word)
        self.assertIs(is_decision(5, F, LISTS, ("paper", paper)), False)
        self.assertIs(is_decision(5, (), lists, ("paper", ((), ()))), True)
        self.assertIs(is_decision(5, (), lists, ("pick", (1, 1))), False)

    def test_words_and_forms(self):
        for value in (["pick", (4, 2)], ("pick",), ("pick", (4, 2), ()), ("Pick", (4, 2)), ("picks", (4, 2)),
                      (b"pick", (4, 2)), (None, (4, 2)), (0, (4, 2)), (True, (4, 2)), (("pick",), (4, 2)),
                      ("paper", (4, 2)), ((4, 2), "pick"), "pick", ("", (4, 2)), (["pick"], (4, 2)),
                      {"pick": (4, 2), "paper": ()}):
            self.assertIs(is_decision(5, F, LISTS, value), False, value)
        paper = ((((0, 0), 1),), (((0, 0), 4),))
        self.assertIs(is_decision(5, F, ((1, 4), (1, 4)), ("pick", paper)), False)

    def test_values_of_every_kind(self):
        for value in ODD_VALUES:
            for f in (F, ()):
                self.assertIs(is_decision(5, f, LISTS, value), False, value)
                self.assertIs(is_decision(5, f, LISTS, ("pick", value)), False, value)
                self.assertIs(is_decision(5, f, LISTS, ("paper", value)), False, value)

    def test_both_sides_never_agree(self):
        draws = Draws(53)
        for _ in range(100):
            p = draws.one_of(FIELDS)
            lists = draws.lists(p, draws.lengths(p, 2, 3))
            paper = tuple(draws.polynomial(p, 2, 2, 1) for _ in lists)
            f = paper_total(p, lists, paper)
            self.assertFalse(any(is_decision(p, f, lists, ("pick", choice)) for choice in plain_choices(lists)))
            g = summed(p, f, (((0, 0), 1),))
            self.assertIs(is_decision(p, g, lists, ("paper", paper)), False)


if __name__ == "__main__":
    unittest.main()
