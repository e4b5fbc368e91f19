"""Points [16], [17] and [18]: joint papers, and what papers are good for."""

import unittest

from draws import (FIELDS, JUST_SO_MANY, MORE, MORE_COUNT, ODD_VALUES, Draws, far_too_many, is_told_polynomial,
                   multiplied, negative, number_polynomial, only_tuples, paper_total, plain_choices, plain_table,
                   plain_worth, row_product, summed)
from listpicks.deciding import decided, is_decision
from listpicks.errors import Refused
from listpicks.joint import is_joint_paper, joint_sum, solved
from listpicks.vanishing import is_vanishing_paper, vanishing_paper

PRIMES = FIELDS[1:]
LISTS = ((1, 2), (1, 2))
EQUATIONS = ((((1, 1), 1),),)
ONE = (((0, 0), 1),)


def joint_total(p, equations, lists, paper):
    factors, rest = paper
    products = [multiplied(p, equation, factor) for equation, factor in zip(equations, factors)]
    return summed(p, paper_total(p, lists, rest), *products)


class Sums(unittest.TestCase):
    def test_drawn_sums(self):
        draws = Draws(61)
        for _ in range(100):
            p, n = draws.one_of(PRIMES), draws.between(1, 3)
            lists = draws.lists(p, draws.lengths(p, n, 4))
            equations = tuple(draws.polynomial(p, n, 3, 3) for _ in range(draws.below(4)))
            paper = (tuple(draws.polynomial(p, n, 3, 2) for _ in equations),
                     tuple(draws.polynomial(p, n, 2, 2) for _ in lists))
            found = joint_sum(p, equations, lists, paper)
            self.assertEqual(found, joint_total(p, equations, lists, paper))
            self.assertIs(is_joint_paper(p, equations, found, lists, paper), True)
            for choice in plain_choices(lists):
                if not any(plain_worth(p, equation, choice) for equation in equations):
                    self.assertEqual(plain_worth(p, found, choice), 0)
            other = summed(p, found, number_polynomial(p, n, 1))
            self.assertIs(is_joint_paper(p, equations, other, lists, paper), False)

    def test_edges(self):
        self.assertEqual(joint_sum(3, (), LISTS, ((), ((), ()))), ())
        self.assertEqual(joint_sum(3, EQUATIONS, LISTS, ((ONE,), ((), ()))), EQUATIONS[0])
        self.assertEqual(joint_sum(3, (), ((1,),), ((), ((((0,), 1),),))), (((0,), 2), ((1,), 1)))


class WhatJointPapersAre(unittest.TestCase):
    def setUp(self):
        # x * y is nowhere 0 on the lists, so 1 is made of it: it is its own inverse there.
        self.paper = solved(3, EQUATIONS, ONE, LISTS)[1]

    def test_a_good_one(self):
        self.assertEqual(joint_total(3, EQUATIONS, LISTS, self.paper), ONE)
        self.assertIs(is_joint_paper(3, EQUATIONS, ONE, LISTS, self.paper), True)

    def test_other_questions(self):
        self.assertIs(is_joint_paper(3, EQUATIONS, (((0, 0), 2),), LISTS, self.paper), False)
        self.assertIs(is_joint_paper(3, EQUATIONS, (), LISTS, self.paper), False)
        self.assertIs(is_joint_paper(3, EQUATIONS * 2, ONE, LISTS, self.paper), False)
        self.assertIs(is_joint_paper(3, (), ONE, LISTS, self.paper), False)
        self.assertIs(is_joint_paper(3, ((((1, 0), 1),),), ONE, LISTS, self.paper), False)
        self.assertIs(is_joint_paper(3, EQUATIONS, ONE, ((0, 2), (1, 2)), self.paper), False)

    def test_no_degree_is_asked_for(self):
        factors, rest = self.paper
        one, other = row_product(3, 2, 0, LISTS[0]), row_product(3, 2, 1, LISTS[1])
        great = (factors, (summed(3, rest[0], other), summed(3, rest[1], negative(3, one))))
        self.assertEqual(joint_total(3, EQUATIONS, LISTS, great), ONE)
        self.assertIs(is_joint_paper(3, EQUATIONS, ONE, LISTS, great), True)
        self.assertIs(is_joint_paper(3, (), (), LISTS, ((), (other, negative(3, one)))), True)

    def test_near_ones(self):
        factors, rest = self.paper
        for value in ([factors, rest], (list(factors), rest), (factors, list(rest)), (factors,), (factors, rest, ()),
                      (rest, factors), ((), rest), (factors, ()), (factors + ((),), rest), (factors, rest + ((),)),
                      (factors, rest[:1]), (factors[0], rest), (None, rest), (factors, None), ((None,), rest),
                      ((list(factors[0]),), rest), ((factors[0][::-1],), rest), (factors, (rest[0], None)),
                      ((factors[0] + (((2, 2), 0),),), rest), ((factors[0] + (((2, 2), 3),),), rest)):
            if value != self.paper:
                self.assertIs(is_joint_paper(3, EQUATIONS, ONE, LISTS, value), False, value)
        self.assertIs(is_joint_paper(3, EQUATIONS, EQUATIONS[0], LISTS, ((ONE,), ((), ()))), True)
        for entry in ((((0, 0), True),), (((False, 0), 1),), (((0, 0), 1.0),), (((0, 0), 4),), [((0, 0), 1)],
                      (((0, 0), -2),), (([0, 0], 1),), (((0,), 1),), (((0, 0), 2), ((0, 0), 2))):
            self.assertIs(is_joint_paper(3, EQUATIONS, EQUATIONS[0], LISTS, ((entry,), ((), ()))), False, entry)
            product = row_product(3, 2, 0, LISTS[0])
            self.assertIs(is_joint_paper(3, (), product, LISTS, ((), (entry, ()))), False, entry)
        self.assertIs(is_joint_paper(3, (), row_product(3, 2, 0, LISTS[0]), LISTS, ((), (ONE, ()))), True)

    def test_powers_up_to_40(self):
        for power, wanted in ((40, True), (41, False)):
            factor = (((power,), 1),)
            self.assertIs(is_joint_paper(3, ((), (((0,), 1),)), (), ((1,),), ((factor, ()), ((),))), wanted)

    def test_values_of_every_kind(self):
        for value in ODD_VALUES + ((), ((), ()), ((), ((),)), (((),), ((), ()))):
            self.assertIs(is_joint_paper(3, EQUATIONS, ONE, LISTS, value), False, value)
        for value in ODD_VALUES:
            self.assertIs(is_joint_paper(3, (), (), LISTS, value), False, value)
            self.assertIs(is_joint_paper(3, (), (), LISTS, (value, ((), ()))), False, value)
            self.assertIs(is_joint_paper(3, (), (), LISTS, ((), value)), False, value)


class Solved(unittest.TestCase):
    def check(self, p, equations, f, lists):
        found = solved(p, equations, f, lists)
        self.assertTrue(only_tuples(found))
        word, evidence = found
        picks = [choice for choice in plain_choices(lists) if plain_worth(p, f, choice)
                 and not any(plain_worth(p, equation, choice) for equation in equations)]
        self.assertEqual(word, "pick" if picks else "paper")
        if picks:
            self.assertIn(evidence, picks)
        else:
            self.assertEqual(joint_total(p, equations, lists, evidence), f)
            self.assertEqual((len(evidence[0]), len(evidence[1])), (len(equations), len(lists)))
            for entry in evidence[0] + evidence[1]:
                self.assertTrue(is_told_polynomial(p, len(lists), entry))
                self.assertLessEqual(max([max(powers) for powers, _ in entry], default=0), 40)
            self.assertIs(is_joint_paper(p, equations, f, lists, evidence), True)
        return word

    def test_drawn_ones(self):
        draws = Draws(62)
        seen = {"pick": 0, "paper": 0}
        for _ in range(200):
            p, n = draws.one_of(PRIMES), draws.between(1, 3)
            lists = draws.lists(p, draws.lengths(p, n, 3))
            equations = tuple(draws.polynomial(p, n, draws.between(0, 4), draws.one_of((1, 3)))
                              for _ in range(draws.between(0, 3)))
            f = draws.polynomial(p, n, draws.between(0, 4), draws.one_of((0, 2)))
            seen[self.check(p, equations, f, lists)] += 1
        self.assertGreater(min(seen.values()), 50)

    def test_many_equations(self):
        draws = Draws(63)
        for p in (2, 3, 7):
            lists = draws.lists(p, (2, 2, min(p, 3)))
            equations = tuple(draws.polynomial(p, 3, 4, 2) for _ in range(12))
            self.check(p, equations, draws.polynomial(p, 3, 3, 2), lists)

    def test_edges(self):
        self.assertEqual(solved(3, EQUATIONS, ONE, ((1,), (0, 1))), ("pick", (1, 0)))
        self.assertEqual(self.check(3, (), (), LISTS), "paper")
        self.assertEqual(self.check(3, (), ONE, LISTS), "pick")
        self.assertEqual(self.check(3, (ONE,), ONE, LISTS), "paper")
        self.assertEqual(self.check(3, ((), ()), ONE, LISTS), "pick")
        self.assertEqual(self.check(3, (), row_product(3, 2, 1, (1, 2)), LISTS), "paper")
        self.assertEqual(self.check(3, EQUATIONS, (), LISTS), "paper")
        self.assertEqual(self.check(2, ((((1,), 1),),), (((0,), 1),), ((1,),)), "paper")
        self.assertEqual(self.check(2, ((((1,), 1),),), (((0,), 1),), ((0,),)), "pick")
        high = ((((28, 28), 1),), (((0, 0), 100), ((28, 0), 1)))
        many = (tuple(range(1, 13)), tuple(range(12)))
        self.assertEqual(self.check(101, high, (((28, 0), 1),), many), "pick")
        self.assertEqual(self.check(101, high, (((0, 28), 1),), many), "paper")
        self.assertEqual(self.check(101, ((((28, 28), 1),),), (((28, 27), 1), ((28, 28), 5)),
                                    (tuple(range(12)), tuple(range(89, 101)))), "paper")

    def test_no_equations_is_as_decided(self):
        draws = Draws(64)
        for _ in range(40):
            p = draws.one_of(PRIMES)
            lists = draws.lists(p, draws.lengths(p, 2, 3))
            f = draws.polynomial(p, 2, 3, 3)
            self.assertEqual(self.check(p, (), f, lists), decided(p, f, lists)[0])

    def test_more_are_refused(self):
        for lists, count in ((MORE, MORE_COUNT), (far_too_many(13), 12 ** 10)):
            n = len(lists)
            one, product = (((0,) * n, 1),), (((1,) * n, 1),)
            for equations in ((), (one,), (product, ())):
                for f in ((), one, product):
                    with self.assertRaises(Refused) as caught:
                        solved(13, equations, f, lists)
                    self.assertEqual(caught.exception.at, count)

    def test_just_so_many(self):
        first = row_product(11, 5, 0, (0, 1))
        word, paper = solved(11, (row_product(11, 5, 0, tuple(range(10))),), (((0,) * 5, 1),), JUST_SO_MANY)
        self.assertEqual((word, paper[0]), ("pick", 0))
        word, paper = solved(11, ((((0,) * 5, 1),),), first, JUST_SO_MANY)
        self.assertEqual(word, "paper")
        self.assertEqual(joint_total(11, ((((0,) * 5, 1),),), JUST_SO_MANY, paper), first)


class WhatPapersAreGoodFor(unittest.TestCase):
    def test_parts_of_lists(self):
        draws = Draws(65)
        for _ in range(60):
            p, n = draws.one_of(FIELDS), draws.between(1, 3)
            lists = draws.lists(p, draws.lengths(p, n, 4))
            parts = tuple(row[:draws.between(1, len(row))] for row in lists)
            f = paper_total(p, lists, tuple(draws.polynomial(p, n, 2, 2) for _ in lists))
            self.assertIs(is_vanishing_paper(p, f, parts, vanishing_paper(p, f, parts)), True)
            g = draws.polynomial(p, n, 3, 2)
            word, evidence = decided(p, g, parts)
            if word == "pick":
                self.assertIs(is_decision(p, g, lists, (word, evidence)), True)
                self.assertEqual(decided(p, g, lists)[0], "pick")

    def test_all_elements(self):
        draws = Draws(66)
        for p in (2, 3, 5):
            everywhere = (tuple(range(p)),) * 2
            for _ in range(30):
                f = draws.polynomial(p, 2, 3, 2 * p)
                if draws.below(2):
                    f = summed(p, multiplied(p, f, (((p, 0), 1),)), negative(p, multiplied(p, f, (((1, 0), 1),))))
                nothing = not any(plain_table(p, f, everywhere))
                self.assertIs(vanishing_paper(p, f, everywhere) is not None, nothing)

    def test_products(self):
        draws = Draws(67)
        for _ in range(60):
            p = draws.one_of(FIELDS)
            lists = draws.lists(p, draws.lengths(p, 2, 3))
            f = row_product(p, 2, 0, lists[0][:draws.between(1, len(lists[0]))])
            g = summed(p, draws.polynomial(p, 2, 1, 1), row_product(p, 2, 1, lists[1]))
            each = all(plain_worth(p, f, choice) == 0 or plain_worth(p, g, choice) == 0
                       for choice in plain_choices(lists))
            self.assertIs(vanishing_paper(p, multiplied(p, f, g), lists) is not None, each)

    def test_papers_added(self):
        draws = Draws(68)
        for _ in range(40):
            p = draws.one_of(FIELDS)
            lists = draws.lists(p, draws.lengths(p, 2, 3))
            one, other = (tuple(draws.polynomial(p, 2, 2, 2) for _ in lists) for _ in range(2))
            both = tuple(summed(p, a, b) for a, b in zip(one, other))
            self.assertEqual(paper_total(p, lists, both),
                             summed(p, paper_total(p, lists, one), paper_total(p, lists, other)))


if __name__ == "__main__":
    unittest.main()
