"""Points [38], [40] and [41]: choices at which all equations are 0."""

import unittest

from draws import (FIELDS, JUST_SO_MANY, MORE, MORE_COUNT, Draws, divided_worth, far_too_many, only_tuples, plain_choices,
                   plain_degree, plain_differences, plain_worth, told)
from listpicks.fewpicks import least_picks
from listpicks.polynomials import polynomial_of
from listpicks.totals import all_lists, zero_unknowns
from listpicks.zeros import common_zeros, fewest_zeros, load, second_zero, weight_sum
from refusing import assert_refused

PRIMES = FIELDS[1:]
F = polynomial_of(3, 3, [((1, 1, 0), 1), ((0, 0, 1), 1)])
ONE = (((0, 0), 1),)


def plain_zeros(p, equations, lists):
    return tuple(choice for choice in plain_choices(lists)
                 if not any(plain_worth(p, equation, choice) for equation in equations))


def plain_load(p, equations):
    return (p - 1) * sum(max(0, plain_degree(equation)) for equation in equations)


def plain_weight_sum(p, lists, zeros):
    return sum(divided_worth(p, 1, plain_differences(p, lists, zero)) for zero in zeros) % p


def drawn_question(draws, longest=4):
    """A field, equations, perhaps the polynomial 0 among them, and lists."""
    p, n = draws.one_of(PRIMES), draws.between(1, 4)
    lists = draws.lists(p, draws.lengths(p, n, longest))
    equations = []
    for _ in range(draws.below(4)):
        many = draws.below(4)
        # Low powers as often as any: loads below D are wanted, too.
        equations.append(told(p, {tuple(draws.below(3) // 2 for _ in range(n)): draws.element(p) for _ in range(many)})
                         if draws.below(2) else draws.polynomial(p, n, many, 4))
    return p, n, tuple(equations), lists


class CommonZeros(unittest.TestCase):
    def test_drawn_questions(self):
        draws = Draws(261)
        seen = {True: 0, False: 0}
        for _ in range(300):
            p, _, equations, lists = drawn_question(draws)
            wanted = plain_zeros(p, equations, lists)
            found = common_zeros(p, equations, lists)
            self.assertEqual(found, wanted)
            self.assertTrue(only_tuples(found))
            self.assertEqual(load(p, equations), plain_load(p, equations))
            seen[bool(found)] += 1
            others = wanted
            for zero in wanted[:3]:
                others = [one for one in wanted if one != zero]
                other = second_zero(p, equations, lists, zero)
                if others:
                    self.assertIn(other, others)
                else:
                    self.assertIs(other, None)
            self.assertEqual(weight_sum(p, equations, lists), plain_weight_sum(p, lists, wanted))
        self.assertGreater(min(seen.values()), 50)

    def test_edges(self):
        lists = ((0, 1), (1, 2))
        every = ((0, 1), (0, 2), (1, 1), (1, 2))
        self.assertEqual(common_zeros(3, (), lists), every)
        self.assertEqual(common_zeros(3, ((), ()), lists), every)
        self.assertEqual(common_zeros(3, (ONE,), lists), ())
        self.assertEqual(common_zeros(3, ((), ONE), lists), ())
        self.assertEqual(common_zeros(2, ((((1,), 1),),), ((0, 1),)), ((0,),))
        self.assertEqual(common_zeros(5, ((((4,), 1), ((0,), 4)),), ((0, 2, 3),)), ((2,), (3,)))
        self.assertEqual((load(3, ()), load(3, ((),)), load(3, (ONE,)), load(3, ((), F, ONE, F)), load(2, (F,))),
                         (0, 0, 0, 8, 2))
        self.assertEqual(load(101, ((((40,) * 10, 1),),)), 40000)
        self.assertEqual(second_zero(3, (), lists, (0, 1)), (0, 2))
        self.assertIs(second_zero(3, (), ((1,), (2,)), (1, 2)), None)

    def test_the_document(self):
        self.assertEqual(load(3, (F,)), 4)
        self.assertEqual(len(common_zeros(3, (F,), all_lists(3, 3))), 9)
        self.assertEqual(common_zeros(3, (F,), ((0, 1),) * 3), ((0, 0, 0), (0, 1, 0), (1, 0, 0)))
        self.assertEqual(second_zero(3, (F,), ((0, 1), (0, 1), (0,)), (0, 1, 0)) in ((0, 0, 0), (1, 0, 0)), True)

    def test_too_many_choices_are_refused(self):
        for equations in ((), ((),), ((((1, 0, 0, 0, 0), 1),),)):
            assert_refused(self, MORE_COUNT, lambda: common_zeros(13, equations, MORE),
                           lambda: weight_sum(13, equations, MORE), lambda: second_zero(13, equations, MORE, (0,) * 5))
        lists = far_too_many(13)
        assert_refused(self, 12 ** 10, lambda: common_zeros(13, (), lists), lambda: weight_sum(13, (), lists),
                       lambda: second_zero(13, (), lists, (0,) * 10))

    def test_just_so_many(self):
        equations = ((((0, 0, 0, 1, 1), 10), ((1, 1, 0, 0, 0), 1)), (((0, 0, 0, 0, 0), 5), ((0, 0, 3, 1, 0), 1)))
        wanted = plain_zeros(11, equations, JUST_SO_MANY)
        self.assertEqual(common_zeros(11, equations, JUST_SO_MANY), wanted)
        self.assertIn(second_zero(11, equations, JUST_SO_MANY, wanted[0]), wanted[1:])
        self.assertEqual(weight_sum(11, equations, JUST_SO_MANY), plain_weight_sum(11, JUST_SO_MANY, wanted))


class NeverJustOne(unittest.TestCase):
    def test_a_load_below_d(self):
        draws = Draws(262)
        below = 0
        for _ in range(600):
            p, n, equations, lists = drawn_question(draws, 7)
            zeros = common_zeros(p, equations, lists)
            if load(p, equations) < sum(len(row) - 1 for row in lists):
                below += 1
                self.assertEqual(weight_sum(p, equations, lists), 0)
                self.assertNotEqual(len(zeros), 1)
                for zero in zeros[:2]:
                    self.assertIsNot(second_zero(p, equations, lists, zero), None)
        self.assertGreater(below, 100)

    def test_all_elements(self):
        draws = Draws(263)
        for _ in range(150):
            p, n = draws.one_of(((2, 6), (2, 4), (3, 4), (3, 3), (5, 3), (7, 2)))
            equations, degrees = [], 0
            while degrees < n - 1 and draws.below(4):
                degree = draws.between(1, n - 1 - degrees)
                totals = {}
                for _ in range(draws.between(1, 5)):
                    powers = [0] * n
                    for _ in range(degree):
                        powers[draws.below(n)] += 1
                    totals[tuple(powers)] = draws.element(p)
                equations.append(told(p, totals))
                degrees += degree
            zeros = common_zeros(p, tuple(equations), all_lists(p, n))
            self.assertEqual(len(zeros) % p, 0)
            # No equation has a term of powers 0 alone: 0 everywhere is a zero, and not the only one.
            self.assertEqual(zeros[0], (0,) * n)
            self.assertIsNot(second_zero(p, tuple(equations), all_lists(p, n), (0,) * n), None)
            if load(p, tuple(equations)) < n:
                self.assertIsNot(second_zero(p, tuple(equations), ((0, 1),) * n, (0,) * n), None)

    def test_a_load_of_d_may_have_one(self):
        self.assertEqual(common_zeros(3, ((((1,), 1),),), ((0, 1, 2),)), ((0,),))
        self.assertEqual(load(3, ((((1,), 1),),)), 2)
        self.assertNotEqual(weight_sum(3, ((((1,), 1),),), ((0, 1, 2),)), 0)

    def test_edges_of_the_weight_sum(self):
        self.assertEqual(weight_sum(3, (F,), all_lists(3, 3)), 0)
        self.assertEqual(weight_sum(3, (F,), ((0, 2), (1, 2), (2,))), 2)
        self.assertEqual(weight_sum(5, (), ((4,), (2,))), 1)
        self.assertEqual(weight_sum(5, (ONE,), ((4,), (2,))), 0)
        self.assertEqual(weight_sum(2, (), ((0, 1),)), 0)


class HowMany(unittest.TestCase):
    def test_none_or_so_many(self):
        draws = Draws(264)
        some = 0
        for _ in range(300):
            p, _, equations, lists = drawn_question(draws, 7)
            fewest = fewest_zeros(p, equations, lists)
            lengths = tuple(len(row) for row in lists)
            self.assertEqual(fewest, least_picks(lengths, plain_load(p, equations)))
            zeros = common_zeros(p, equations, lists)
            if zeros:
                self.assertGreaterEqual(len(zeros), fewest)
                some += fewest > 1
        self.assertGreater(some, 50)

    def test_all_elements(self):
        for p, n in ((2, 5), (3, 3), (5, 2), (7, 2)):
            for many in range(n + 1):
                equations = zero_unknowns(p, n, many)
                self.assertEqual(fewest_zeros(p, equations, all_lists(p, n)), p ** (n - many))
                self.assertEqual(len(common_zeros(p, equations, all_lists(p, n))), p ** (n - many))

    def test_edges(self):
        self.assertEqual(fewest_zeros(3, (F,), all_lists(3, 3)), 3)
        self.assertEqual(fewest_zeros(5, (), ((1, 2), (0, 3, 4))), 6)
        self.assertEqual(fewest_zeros(5, ((), ONE), ((1, 2), (0, 3, 4))), 6)
        self.assertEqual(fewest_zeros(5, (ONE, F[:1]), ((1, 2), (0, 3, 4))), 1)
        # However many choices there are.
        self.assertEqual(fewest_zeros(13, (), far_too_many(13)), 12 ** 10)
        self.assertEqual(fewest_zeros(13, zero_unknowns(13, 10, 2), far_too_many(13)), 10 * 12 ** 7)


if __name__ == "__main__":
    unittest.main()
