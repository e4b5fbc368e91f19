"""Points [69] and [70]: changes of lives, and the evidence that outlives them."""

import unittest

from asking import assert_raised
from draws import FIELDS, ODD_VALUES, Draws, multiplied, only_tuples, plain_worth
from listpicks.deciding import is_decision
from listpicks.errors import InvalidQuestion
from listpicks.living import begun, is_life, whole_condition
from listpicks.livingchanges import carried, changed, is_change
from plain_lives import (dense, drawn_change, drawn_conditions, one_term, pairs_sum, plain_picks, plainly_changed,
                         plainly_possible)

F = (((0, 1), 4), ((1, 0), 1))
LIFE = begun(5, 2, (F,), ((1, 2), (1,)))
DEAD = begun(5, 2, (F,), ((1,), (1,)))


def drawn_life(draws):
    p, n = draws.one_of(FIELDS), draws.between(1, 3)
    lists = draws.lists(p, draws.lengths(p, n, 3))
    return begun(p, n, drawn_conditions(draws, p, n, lists), lists)


def plainly_carried(life, change, conditions, lists):
    """The evidence behind a change without deciding anew, as [69] tells it."""
    p, n, _, _, (word, evidence) = life
    if word == "pick":
        return life[4] if evidence in plain_picks(p, conditions, lists) else None
    if change[0] == "strike":
        _, at, one = change
        factor = [(tuple(int(k == at) for k in range(n)), 1), ((0,) * n, -one)]
        factor = tuple(sorted((powers, share % p if p else share) for powers,
                              share in factor if (share % p if p else share)))
        return word, evidence[:at] + (multiplied(p, evidence[at], factor),) + evidence[at + 1:]
    if change[0] == "more":
        return word, tuple(multiplied(p, entry, change[1]) for entry in evidence)
    return None


class Changes(unittest.TestCase):
    def test_drawn_changes(self):
        draws = Draws(491)
        seen = {}
        for _ in range(700):
            life = drawn_life(draws)
            change = drawn_change(draws, life)
            possible = plainly_possible(life, change)
            self.assertIs(is_change(life, change), possible)
            if not possible:
                assert_raised(self, InvalidQuestion, 1, lambda: changed(life, change))
                continue
            conditions, lists = plainly_changed(life, change)
            kept = carried(life, change)
            self.assertEqual(kept, plainly_carried(life, change, conditions, lists))
            found = changed(life, change)
            self.assertTrue(only_tuples(found) and only_tuples(kept))
            self.assertEqual(found[:4], life[:2] + (conditions, lists))
            self.assertIs(is_life(found), True)
            word = found[4][0]
            self.assertEqual(word, "pick" if plain_picks(life[0], conditions, lists) else "paper")
            if kept is not None:
                self.assertEqual(found[4], kept)
                self.assertIs(is_decision(life[0], whole_condition(life[0], life[1], conditions), lists, kept), True)
            kind = (change[0], life[4][0], word, kept is not None)
            seen[kind] = seen.get(kind, 0) + 1
            if life[4][0] != word:
                # What came about anew was never carried, and by these changes alone.
                self.assertIs(kept, None)
                self.assertIn(change[0], ("add", "less") if word == "pick" else ("strike", "more"))
        for kind in (("strike", "pick", "pick", True), ("strike", "pick", "pick", False),
                     ("strike", "pick", "paper", False), ("strike", "paper", "paper", True),
                     ("add", "pick", "pick", True), ("add", "paper", "pick", False), ("add", "paper", "paper", False),
                     ("more", "pick", "pick", True), ("more", "pick", "pick", False), ("more", "pick", "paper", False),
                     ("more", "paper", "paper", True), ("less", "pick", "pick", True),
                     ("less", "paper", "pick", False)):
            self.assertGreater(seen.get(kind, 0), 1, kind)

    def test_edges(self):
        self.assertEqual(LIFE[4], ("pick", (2, 1)))
        self.assertIs(carried(LIFE, ("strike", 0, 2)), None)
        self.assertEqual(carried(LIFE, ("strike", 0, 1)), ("pick", (2, 1)))
        self.assertEqual(carried(LIFE, ("add", 1, 2)), ("pick", (2, 1)))
        self.assertEqual(carried(LIFE, ("less", 0)), ("pick", (2, 1)))
        self.assertEqual(carried(LIFE, ("more", (((0, 0), 1),))), ("pick", (2, 1)))
        self.assertIs(carried(LIFE, ("more", (((0, 0), 3), ((1, 0), 1)))), None)
        self.assertEqual(DEAD[4][0], "paper")
        self.assertIs(carried(DEAD, ("add", 0, 2)), None)
        self.assertIs(carried(DEAD, ("less", 0)), None)
        self.assertEqual(carried(DEAD, ("more", ())), ("paper", ((), ())))
        self.assertEqual(changed(LIFE, ("strike", 0, 2))[3:], (((1,), (1,)), changed(LIFE, ("strike", 0, 2))[4]))
        self.assertEqual(changed(LIFE, ("strike", 0, 2))[4][0], "paper")
        self.assertEqual(changed(DEAD, ("less", 0)), (5, 2, (), ((1,), (1,)), ("pick", (1, 1))))
        self.assertEqual(changed(LIFE, ("add", 0, 0))[3], ((0, 1, 2), (1,)))
        self.assertEqual(changed(LIFE, ("more", ()))[2], (F, ()))

    def test_a_paper_is_carried_whatever_it_is(self):
        # Two entries that take each other away, as no paper that is told here has.
        f = multiplied(5, F, one_term(2, 0, 2))
        lists = ((0, 1), (0, 1, 2))
        extra = [multiplied(5, *[tuple(sorted([(tuple(int(k == at) for k in range(2)), 1),
                                               ((0, 0), -one % 5)])) if one else one_term(2, at, 1)
                                 for one in lists[at]]) for at in (0, 1)]
        life = begun(5, 2, (multiplied(5, f, extra[0]),), lists)
        paper = (f, ())
        self.assertIs(is_life(life[:4] + (("paper", paper),)), True)
        for change in (("strike", 0, 1), ("strike", 1, 2), ("more", F)):
            spoilt = life[:4] + (("paper", paper),)
            kept = carried(spoilt, change)
            self.assertEqual(kept, plainly_carried(spoilt, change, *plainly_changed(spoilt, change)))
            self.assertEqual(changed(spoilt, change)[4], kept)
            self.assertIs(is_life(changed(spoilt, change)), True)

    def test_evidence_is_kept_not_made_anew(self):
        # Another pick than the one that would be told.
        life = (0, 1, (), ((1, 2, 3),), ("pick", (3,)))
        self.assertEqual(changed(life, ("strike", 0, 1)), (0, 1, (), ((2, 3),), ("pick", (3,))))
        self.assertEqual(changed(life, ("more", (((1,), 1),)))[4], ("pick", (3,)))
        self.assertEqual(changed(life, ("add", 0, 0))[4], ("pick", (3,)))


class WhatChangesAre(unittest.TestCase):
    def test_of_lists(self):
        life = begun(5, 2, (F,), ((1, 2), (1,)))
        for change in (("strike", 0, 1), ("strike", 0, 2), ("add", 0, 0), ("add", 1, 4)):
            self.assertIs(is_change(life, change), True)
        for change in (("strike", 1, 1), ("strike", 0, 3), ("strike", 0, 7), ("strike", 2, 1), ("strike", -1, 1),
                       ("strike", -2, 1), ("strike", 0, True), ("strike", False, 1), ("strike", 0, 1.0),
                       ("strike", 0.0, 1), ("strike", 0, "1"), ("strike", 0, None), ("strike", None, 1), ("strike", 0),
                       ("strike", 0, 1, 1), ["strike", 0, 1], ("Strike", 0, 1), ("strikes", 0, 1), (b"strike", 0, 1),
                       ("strike", (0, 1)), ("add", 0, 1), ("add", 0, 5), ("add", 0, -1), ("add", 2, 3), ("add", -1, 3),
                       ("add", True, 3), ("add", 0, True), ("add", 0, 3.0), ("add", 0, False), ("add", 0),
                       ("add", 0, (3,)), ("add", 0, 3, 3), ["add", 0, 3], (None, 0, 1), (1, 0, 1), ("", 0, 1),
                       ("more", 0, 1), ("less", 0, 0)):
            self.assertIs(is_change(life, change), False, change)
            assert_raised(self, InvalidQuestion, 1, lambda: changed(life, change))
        over = begun(0, 1, (), ((1,),))
        self.assertIs(is_change(over, ("add", 0, -10 ** 29)), True)
        self.assertIs(is_change(over, ("add", 0, True)), False)

    def test_a_thirteenth_element(self):
        life = begun(13, 2, (), (tuple(range(12)), tuple(range(1, 12))))
        self.assertIs(is_change(life, ("add", 0, 12)), False)
        self.assertIs(is_change(life, ("add", 1, 12)), True)
        self.assertIs(is_change(changed(life, ("strike", 0, 3)), ("add", 0, 12)), True)
        self.assertEqual(changed(life, ("add", 1, 0))[3][1], tuple(range(12)))

    def test_of_conditions(self):
        for change in (("more", F), ("more", ()), ("more", (((39, 39), 1),)), ("less", 0)):
            self.assertIs(is_change(LIFE, change), True)
        for change in (("more", None), ("more", [F]), ("more", list(F)), ("more", (((1,), 1),)),
                       ("more", (((1, 0), 5),)), ("more",), ("more", (((1, 41), 1),)), ("more", (((0, 40), 1),)),
                       ("more", F, F), ["more", F], ("More", F), ("more", (((1, 0), 1), ((0, 1), 1))), ("more", 0),
                       ("less", 1), ("less", -1), ("less", False), ("less", 0.0), ("less", None), ("less",),
                       ("less", (0,)), ("less", "0"), ["less", 0], ("les", 0), (None, 0), (0, F), F, ("strike", F),
                       ("add", 0)):
            self.assertIs(is_change(LIFE, change), False, change)
            assert_raised(self, InvalidQuestion, 1, lambda: changed(LIFE, change))
        self.assertIs(is_change(begun(5, 1, (), ((1,),)), ("less", 0)), False)

    def test_twelve_and_thirteen_conditions(self):
        lists = ((1, 2), (1,))
        self.assertIs(is_change(begun(5, 2, (F,) * 11, lists), ("more", F)), True)
        self.assertIs(is_change(begun(5, 2, (F,) * 12, lists), ("more", F)), False)
        self.assertIs(is_change(begun(5, 2, (F,) * 12, lists), ("less", 11)), True)
        self.assertIs(is_change(begun(5, 2, (F,) * 12, lists), ("less", 12)), False)

    def test_limits_of_products(self):
        lists = ((1, 2), (1,))
        self.assertIs(is_change(begun(5, 2, (one_term(2, 0, 20),), lists), ("more", one_term(2, 0, 20))), True)
        self.assertIs(is_change(begun(5, 2, (one_term(2, 0, 20),), lists), ("more", one_term(2, 0, 21))), False)
        self.assertIs(is_change(begun(5, 2, (one_term(2, 0, 20),), lists), ("more", one_term(2, 1, 40))), True)
        life = begun(0, 5, (), ((1,),) * 5)
        self.assertIs(is_change(life, ("more", dense(5, 3000))), True)
        self.assertIs(is_change(life, ("more", dense(5, 3001))), False)
        self.assertIs(is_change(begun(0, 5, ((),), ((1,),) * 5), ("more", dense(5, 3001))), False)
        one = dense(3, 55)
        wide = tuple((powers + (0, 0, 0), 1) for powers, _ in one), tuple(((0, 0, 0) + powers, 1) for powers, _ in one)
        life = begun(0, 6, wide[:1], ((1,),) * 6)
        self.assertIs(is_change(life, ("more", wide[1][1:])), True)
        self.assertIs(is_change(life, ("more", wide[1])), False)

    def test_what_is_left_may_be_too_much(self):
        # Without what takes them away there are too many terms.
        plus, less = pairs_sum(10, 1), pairs_sum(10, -1)
        life = begun(0, 10, (less, plus, (), plus), ((2,),) * 10)
        self.assertIs(is_change(life, ("less", 0)), True)
        self.assertIs(is_change(life, ("less", 3)), True)
        self.assertIs(is_change(life, ("less", 2)), False)
        assert_raised(self, InvalidQuestion, 1, lambda: changed(life, ("less", 2)))
        zero = begun(0, 6, ((), dense(6, 55), dense(6, 3000)), ((1,),) * 6)
        self.assertIs(is_change(zero, ("less", 0)), False)
        self.assertIs(is_change(zero, ("less", 1)), True)

    def test_values_of_every_kind(self):
        # Integers may fit; they are tried above.
        for value in [one for one in ODD_VALUES if type(one) is not int]:
            for change in (value, ("more", value), ("less", value), ("strike", value, 1), ("strike", 0, value),
                           ("add", value, 3), ("add", 0, value), (value, 0, 3), (value, 0)):
                self.assertIs(is_change(LIFE, change), False, change)
                assert_raised(self, InvalidQuestion, 1, lambda: changed(LIFE, change))


if __name__ == "__main__":
    unittest.main()
