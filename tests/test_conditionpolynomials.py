"""Point [62]: polynomials that aren't 0 exactly where a condition holds."""

import unittest
from itertools import product
from math import comb

from draws import (FIELDS, JUST_SO_MANY, MORE, MORE_COUNT, Draws, is_told_polynomial, plain_choices, plain_degree,
                   plain_worth, summed, negative)
from listpicks.conditionpolynomials import condition_polynomial, told_degree, zero_only
from listpicks.conditions import straight
from listpicks.lists import picks
from plain_conditions import A, B, C, ONE_IS, drawn_condition, form_polynomial, plain_sum, plainly
from refusing import assert_refused

PRIMES = FIELDS[1:]
LESS, EQUAL = ("unlike", (A, B)), ("like", (A, B))
FOUR = ("unlike", (("times", (A, A, A, A)), ONE_IS))
NEVER, EVER = ("unlike", (A, A)), ("like", (A, A))
SURELY, NOWHERE = ("unlike", (("is", 1), ("is", 0))), ("like", (("is", 1), ("is", 0)))


def plain_told(p, lists, condition):
    """The degree of a straight condition, by the table of [62]."""
    word, inner = condition
    if word in ("all", "some"):
        degrees = [plain_told(p, lists, part) for part in inner]
        able = [one for one in degrees if one != -1]
        if word == "all":
            return sum(degrees) if able == degrees else -1
        if not able or 0 in able:
            return min(able, default=-1)
        return max(able) * min(len(able), len(able) if p else 2)
    n = len(lists)
    one, other = inner
    d = plain_degree(summed(p, form_polynomial(p, n, one), negative(p, form_polynomial(p, n, other))))
    if word == "unlike":
        return d
    if d < 1:
        return -1 if d == 0 else 0
    worths = {plain_sum(p, one, choice) - plain_sum(p, other, choice) for choice in plain_choices(lists)}
    worths = {worth % p if p else worth for worth in worths}
    return d * len(worths - {0})


def unknowns(value):
    if value[0] == "of":
        return {value[1]}
    if value[0] == "is":
        return set()
    if value[0] in ("minus", "not"):
        return unknowns(value[1])
    return set().union(*[unknowns(part) for part in value[1]])


def has_like(condition):
    word, inner = condition
    return word == "like" or (word in ("all", "some") and any(has_like(part) for part in inner))


def some_of(many, condition=LESS):
    return "some", (condition,) * many


class ZeroOnly(unittest.TestCase):
    def test_all_small_fields(self):
        for p in PRIMES:
            for k in range(1, 6):
                found = zero_only(p, k)
                self.assertTrue(is_told_polynomial(p, k, found))
                self.assertEqual({sum(powers) for powers, _ in found}, {k})
                self.assertEqual(plain_worth(p, found, (0,) * k), 0)
                points = list(product(range(p), repeat=k)) if p ** k < 3500 else Draws(420 + k).lists(p, [1] * k * 400)
                if p ** k >= 3500:
                    points = [tuple(points[at + j][0] for j in range(k)) for at in range(0, len(points), k)]
                for point in points:
                    self.assertIs(plain_worth(p, found, point) == 0, not any(point), (p, k, point))

    def test_all_primes(self):
        for p in [q for q in range(2, 102) if all(q % k for k in range(2, q))]:
            for point in product(range(p), repeat=2) if p < 30 else product((0, 1, p - 1), range(p)):
                self.assertIs(plain_worth(p, zero_only(p, 2), point) == 0, not any(point), (p, point))
            cube = zero_only(p, 3)
            for point in product((0, 1), (0, 1, 2 % p), range(p)):
                self.assertIs(plain_worth(p, cube, point) == 0, not any(point), (p, point))
            draws = Draws(p)
            for k in (4, 5):
                form = zero_only(p, k)
                self.assertEqual({sum(powers) for powers, _ in form}, {k})
                for _ in range(60):
                    point = tuple(draws.below(p) if draws.below(3) else 0 for _ in range(k))
                    self.assertIs(plain_worth(p, form, point) == 0, not any(point), (p, point))

    def test_points_with_few_numbers(self):
        # Had what is taken for one field of 7 ** 5 or 11 ** 5 elements a divisor of 0, it would be found here.
        for p in (7, 11):
            form = zero_only(p, 5)
            for one, other in product(range(p), repeat=2):
                for point in ((one, other, 1, 0, 0), (one, 0, 0, other, 1), (0, one, other, 0, 1)):
                    self.assertNotEqual(plain_worth(p, form, point), 0)

    def test_the_field_0(self):
        self.assertEqual({sum(powers) for powers, _ in zero_only(0, 1)}, {1})
        for k in range(1, 6):
            found = zero_only(0, k)
            self.assertTrue(is_told_polynomial(0, k, found))
            self.assertEqual(plain_degree(found), min(k, 2))
            for point in product((-2, 0, 1), repeat=k):
                self.assertIs(plain_worth(0, found, point) == 0, not any(point))


class ToldDegrees(unittest.TestCase):
    def test_drawn_conditions(self):
        draws = Draws(421)
        for _ in range(300):
            p, n = draws.one_of(FIELDS), draws.between(1, 3)
            condition = drawn_condition(draws, n, draws.below(3))
            lists = draws.lists(p, draws.lengths(p, n, 3))
            found = told_degree(p, lists, condition)
            self.assertIs(type(found), int)
            self.assertEqual(found, plain_told(p, lists, straight(condition)))

    def test_each_form(self):
        lists = ((0, 1), (0, 2, 4))
        for condition, wanted in ((LESS, 1), (NEVER, -1), (SURELY, 0), (EVER, 0), (NOWHERE, -1), (FOUR, 4),
                                  (("like", (A, ONE_IS)), 1), (("like", (A, B)), 4), (("like", (B, ("is", 3))), 3),
                                  (("all", (LESS, FOUR)), 5), (("all", (LESS, NEVER)), -1),
                                  (("all", (SURELY, EVER)), 0), (("some", (LESS, FOUR)), 8),
                                  (("some", (LESS, NEVER)), 1), (("some", (NEVER, NOWHERE)), -1),
                                  (("some", (FOUR, SURELY)), 0), (("some", (FOUR, EVER, NEVER)), 0), (some_of(10), 10),
                                  (("some", (LESS, LESS, NOWHERE, FOUR)), 12), (("not", LESS), 4), (("not", EQUAL), 1),
                                  (("unlike", (A, B, ONE_IS)), 3), (("like", (A, B, ONE_IS)), 4 + 3)):
            self.assertEqual(told_degree(5, lists, condition), wanted, condition)
        self.assertEqual(told_degree(0, lists, some_of(10)), 2)
        self.assertEqual(told_degree(0, lists, ("some", (LESS, NEVER))), 1)
        self.assertEqual(told_degree(0, lists, ("some", (FOUR, LESS, LESS))), 8)
        # A sum that comes to nothing of the kind at all: over 2 the polynomial is 0, over 0 it is not.
        twice = ("unlike", (("add", (A, A)), ("is", 0)))
        self.assertEqual((told_degree(2, lists[:1], twice), told_degree(0, lists, twice)), (-1, 1))
        # All differences are 0 at choices, though not everywhere.
        self.assertEqual(told_degree(5, ((3,), (3,)), EQUAL), 0)
        self.assertEqual(told_degree(5, ((3,), (4,)), EQUAL), 1)

    def test_any_lists_do_without_like(self):
        condition = ("all", (LESS, ("some", (FOUR, ("unlike", (A, C))))))
        self.assertEqual(told_degree(13, MORE, condition), 9)
        self.assertEqual(told_degree(13, ((1,),) * 5, condition), 9)

    def test_great_degrees_are_told(self):
        self.assertEqual(told_degree(5, ((0, 1), (2,)), ("all", (some_of(10, FOUR),) * 10)), 400)
        self.assertEqual(told_degree(0, JUST_SO_MANY, ("like", (("add", (A, ("times", (B, ("is", 100))))), ("is", 5)))),
                         99)

    def test_too_many_choices(self):
        likes = (EQUAL, ("not", LESS), ("not", ("unlike", (A, B, C))), ("all", (NEVER, EVER)),
                 ("some", (SURELY, ("like", (A, A)))), ("all", (EQUAL, some_of(10, FOUR), some_of(10, FOUR))))
        for p in (0, 13):
            for condition in likes:
                assert_refused(self, MORE_COUNT, lambda: told_degree(p, MORE, condition),
                               lambda: condition_polynomial(p, MORE, condition))
            for condition in (LESS, ("not", EQUAL), ("not", ("like", (A, B, C))), ("all", (LESS, NEVER)), SURELY):
                self.assertEqual(told_degree(p, MORE, condition), plain_told(p, ((0,),) * 5, straight(condition)))
                self.assertEqual(plain_degree(condition_polynomial(p, MORE, condition)),
                                 told_degree(p, MORE, condition))
            self.assertEqual(plain_degree(condition_polynomial(p, JUST_SO_MANY, ("like", (A, B)))), 12 if p else 18)


class Polynomials(unittest.TestCase):
    def check(self, p, lists, condition):
        found = condition_polynomial(p, lists, condition)
        self.assertTrue(is_told_polynomial(p, len(lists), found))
        self.assertEqual(plain_degree(found), told_degree(p, lists, condition))
        wanted = tuple(choice for choice in plain_choices(lists) if plainly(p, condition, choice))
        self.assertEqual(picks(p, found, lists), wanted)
        return found

    def test_drawn_conditions(self):
        draws = Draws(422)
        refused = 0
        anywhere = 0
        for _ in range(500):
            p, n = draws.one_of(FIELDS), draws.between(1, 3)
            condition = drawn_condition(draws, n, draws.below(4), 1)
            lists = draws.lists(p, draws.lengths(p, n, 3))
            d = plain_told(p, lists, straight(condition))
            m = len(unknowns(condition))
            if d > 40 or (d > 0 and comb(m + d, m) > 3000):
                refused += 1
                assert_refused(self, d, lambda: condition_polynomial(p, lists, condition))
                continue
            found = self.check(p, lists, condition)
            if not has_like(straight(condition)):
                # Without like it is so at any elements.
                anywhere += 1
                for _ in range(10):
                    point = tuple(draws.element(p, 50) for _ in range(n))
                    self.assertIs(plain_worth(p, found, point) != 0, plainly(p, condition, point))
        self.assertGreater(refused, 15)
        self.assertGreater(anywhere, 60)

    def test_some_of_two_to_ten(self):
        draws = Draws(423)
        for p in FIELDS:
            for many in range(2, 11):
                parts = [("unlike", (("add", (A, ("is", draws.below(9)))), ("times", (B, ("is", draws.below(9))))))
                         for _ in range(many)]
                parts[draws.below(many)] = ("unlike", (("times", (A, B)), ("is", draws.below(9))))
                lists = draws.lists(p, (2, 2))
                if told_degree(p, lists, ("some", tuple(parts))) > 0:
                    self.check(p, lists, ("some", tuple(parts)))
        # All of the parts fail at just one point, the only one at which the polynomial is 0.
        for p in (2, 3, 5):
            for many in range(2, 11):
                parts = [("unlike", (("of", at % 3), ("is", 1))) for at in range(many)]
                found = condition_polynomial(p, ((0,),) * 3, ("some", tuple(parts)))
                self.assertEqual(plain_degree(found), many)
                for point in product(range(p), repeat=3):
                    self.assertIs(plain_worth(p, found, point) == 0, all(one == 1 for one in point[:many]))

    def test_edges(self):
        lists = ((0, 1), (0, 2, 4))
        for p in (0, 5):
            self.assertEqual(condition_polynomial(p, lists, NEVER), ())
            self.assertEqual(condition_polynomial(p, lists, ("all", (some_of(10, FOUR), NOWHERE))), ())
            self.assertEqual(condition_polynomial(p, lists, NOWHERE), ())
            for condition in (EVER, SURELY, ("some", (("all", (FOUR,) * 10), EVER))):
                self.check(p, lists, condition)
            self.check(p, ((3,), (3,)), EQUAL)
            self.check(p, ((3,), (4,)), EQUAL)
        c = ("not", ("unlike", (A, B, ("is", 2))))
        self.assertEqual(plain_degree(self.check(5, lists, c)), 12)

    def test_degrees_of_40_and_of_41(self):
        forty = ("all", (FOUR,) * 10)
        for p in (0, 5, 101):
            lists = ((0, 1, 2), (1,))
            self.check(p, lists, forty)
            both = ("all", (forty, LESS))
            self.assertEqual(told_degree(p, lists, both), 41)
            assert_refused(self, 41, lambda: condition_polynomial(p, lists, both))
            one = ("all", (forty, ("unlike", (A, ("is", 2)))))
            assert_refused(self, 41, lambda: condition_polynomial(p, lists, one))
        self.check(3, ((0, 1), (1, 2)), ("some", (FOUR, LESS) * 5))

    def test_tuples_of_numbers(self):
        # With 3 unknowns 2,925 tuples have a sum up to 24, 3,276 up to 25; with 10 1,001 up to 4, 3,003 up to 5.
        three = ("add", (A, B, C))
        four = ("unlike", (("times", (three,) * 4), ONE_IS))
        lists = ((0, 1),) * 3
        for p in (0, 7):
            self.check(p, lists, ("all", (four,) * 6))
            assert_refused(self, 25, lambda: condition_polynomial(p, lists, ("all", (four,) * 6 + (LESS,))))
            ten = ("add", tuple(("of", at) for at in range(10)))
            whole = ("unlike", (("times", (ten,) * 4), ONE_IS))
            found = condition_polynomial(p, ((0,),) * 10, whole)
            self.assertEqual((plain_degree(found), len(found)), (4, 716))
            assert_refused(self, 5, lambda: condition_polynomial(p, ((0,),) * 10, ("all", (whole, LESS))))
            # Lists that the condition does not have are not counted, nor those that it has twice.
            self.check(p, lists + ((1,),) * 7, ("all", (FOUR,) * 10))
            # Nor is it looked at whether they make a difference.
            nothing = ("unlike", (("add", tuple(("of", at) for at in range(10))), ("add", (A, ("minus", B)))))
            assert_refused(self, 40, lambda: condition_polynomial(p, ((0,),) * 10, ("all",
                                                                                    (FOUR,) * 9 + (("all",
                                                                                                    (nothing, nothing,
                                                                                                     LESS, LESS)),))))
        # None of this for degrees of 0 and below.
        self.assertEqual(condition_polynomial(0, ((0,),) * 10, ("all", (whole, LESS, NOWHERE))), ())

    def test_likes_of_great_degrees(self):
        lists = (tuple(range(12)), tuple(range(0, 120, 12)))
        both = ("all", (("like", (A, ("is", 7))), ("like", (B, ("is", 12)))))
        self.assertEqual(plain_degree(self.check(0, lists, both)), 11 + 9)
        sums = ("like", (("add", (A, B)), ("is", 7)))
        assert_refused(self, 119, lambda: condition_polynomial(0, lists, sums))
        # What is not needed may have any degree.
        self.check(0, lists, ("some", (sums, EVER)))
        self.check(0, lists, ("all", (sums, NEVER)))


if __name__ == "__main__":
    unittest.main()
