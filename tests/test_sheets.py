"""Points [75] and [76]: sheets."""

import unittest

from asking import assert_raised
from draws import FIELDS, JUST_SO_MANY, MORE, ODD_VALUES, Draws, only_tuples
from listpicks.covers import is_cover
from listpicks.deciding import is_decision
from listpicks.errors import InvalidQuestion
from listpicks.gamepapers import is_game_paper
from listpicks.joint import is_joint_paper
from listpicks.sheets import sheet, sheet_holds, wrong_sheets
from listpicks.surelists import is_sure
from listpicks.webcolours import is_length_paper
from listpicks.webways import is_within
from plain_lives import dense, one_term
from plain_webs import BARE, LARGEST, ONE, PATH, RING, SEVEN, SIDES, THREE, TWO_THREE, complete, drawn_web
from refusing import assert_refused

KINDS = ("decision", "joint", "sure", "cover", "way", "lengths", "game")
F = (((0, 1), 2), ((2, 0), 1))
LISTS = ((1, 3), (0, 2))
NOUGHT = (((0, 0), 1),)
LOOKED_AT = {
    "decision": is_decision, "joint": is_joint_paper, "sure": lambda p, *question: is_sure(*question),
    "cover": is_cover, "way": is_within, "lengths": is_length_paper, "game": is_game_paper,
}
# For each kind a question for which there is a sheet.
GOOD = {
    "decision": (5, F, LISTS), "joint": (5, (F, NOUGHT), F, LISTS), "sure": (5, F, (3, 1)), "cover": (5, LISTS, (3, 2)),
    "way": (PATH, (1, 1, 0)), "lengths": (PATH, (2, 2, 1)), "game": (RING, (2, 2, 2, 2)),
}
# For each kind questions for which there is none.
NONE = {
    "joint": ((5, (), F, LISTS), (5, (one_term(2, 1, 1),), NOUGHT, LISTS)),
    "sure": ((5, F, (2, 2)), (5, (), (3, 3)), (0, one_term(1, 0, 12), (12,))),
    "lengths": ((PATH, (1, 1, 2)), (THREE, (2, 2, 2)), (TWO_THREE, (2,) * 5)),
    "game": ((PATH, (1, 2, 1)), (THREE, (2, 2, 2)), (SEVEN, (2,) * 7)),
}


def drawn_question(draws, name):
    p = draws.one_of(FIELDS)
    if name in ("way", "lengths", "game"):
        web = drawn_web(draws)
        least = {"way": 0, "lengths": 1, "game": 0}[name]
        return web, tuple(draws.between(least, 2) for _ in range(web[0]))
    if name == "joint" and p == 0:
        p = 3
    n = draws.between(1, 3)
    lists = draws.lists(p, draws.lengths(p, n, 3))
    f = draws.polynomial(p, n, draws.below(4), 2)
    if name == "decision":
        return p, f, lists
    if name == "joint":
        return p, tuple(draws.polynomial(p, n, 3, 2) for _ in range(draws.below(4))), f, lists
    if name == "sure":
        return p, f, tuple(draws.between(1, 3) for _ in range(n))
    return p, lists, tuple(draws.one_of(row) for row in lists)


class Made(unittest.TestCase):
    def test_drawn_questions(self):
        draws = Draws(521)
        for name in KINDS:
            seen = {True: 0, False: 0}
            for _ in range(60):
                question = drawn_question(draws, name)
                try:
                    found = sheet(name, question)
                except ValueError:
                    seen[False] += 1
                    assert_refused(self, 2, lambda: sheet(name, question))
                    continue
                seen[True] += 1
                self.assertTrue(only_tuples(found))
                self.assertEqual(found[:2], (name, question))
                self.assertIs(sheet_holds(found), True)
                self.assertIs(LOOKED_AT[name](*question, found[2]), True)
            self.assertGreater(seen[True], 10, name)
            if name in ("decision", "cover", "way"):
                self.assertEqual(seen[False], 0)
            else:
                self.assertGreater(seen[False], 5, name)

    def test_each_kind(self):
        for name in KINDS:
            self.assertIs(sheet_holds(sheet(name, GOOD[name])), True)
            for question in NONE.get(name, ()):
                assert_refused(self, 2, lambda: sheet(name, question))
        self.assertEqual(sheet("way", ((2, ((0, 1),)), (1, 0))), ("way", ((2, ((0, 1),)), (1, 0)), ("way", (0,))))
        self.assertEqual(sheet("way", (RING, (1, 1, 0, 1)))[2], ("lot", (0, 1, 2, 3)))
        self.assertEqual(sheet("decision", (5, (), LISTS))[2], ("paper", ((), ())))

    def test_wrong_names(self):
        for name in ODD_VALUES + ("", "Decision", "decisions", b"way", ("way",), ["way"], None):
            assert_refused(self, 0, lambda: sheet(name, GOOD["way"]), lambda: sheet(name, None))

    def test_wrong_questions(self):
        for name in KINDS:
            for value in ODD_VALUES + (list(GOOD[name]), GOOD[name][:-1], GOOD[name] + ((),), (GOOD[name],)):
                assert_refused(self, 1, lambda: sheet(name, value))
            for other in KINDS:
                if GOOD[other] != GOOD[name] and not (name in ("lengths", "game", "way") and other in ("lengths",
                                                                                                       "game", "way")):
                    assert_refused(self, 1, lambda: sheet(name, GOOD[other]))


class Questions(unittest.TestCase):
    def assert_question(self, name, question, kept):
        """Whether it is a question of a kind; if so, there is a sheet, or none for another reason."""
        if kept:
            try:
                self.assertIs(sheet_holds(sheet(name, question)), True)
            except ValueError:
                assert_refused(self, 2, lambda: sheet(name, question))
        else:
            assert_refused(self, 1, lambda: sheet(name, question))

    def test_fields(self):
        for p, kept in ((0, True), (5, True), (101, True), (4, False), (5.0, False), (True, False), (None, False),
                        ("5", False), (-5, False)):
            self.assert_question("decision", (p, F, LISTS), kept)
            self.assert_question("sure", (p, F, (3, 1)), kept)
            self.assert_question("cover", (p, LISTS, (3, 2)), kept)
            self.assert_question("joint", (p, (F,), F, LISTS), kept and p != 0)
        self.assert_question("decision", (2, (((0, 1), 1),), LISTS), False)
        self.assert_question("cover", (3, LISTS, (3, 2)), False)

    def test_lists_and_choices(self):
        for lists in ([(1, 3), (0, 2)], ([1, 3], (0, 2)), ((3, 1), (0, 2)), ((1, 3),), ((1, 3), (0, 2), (1,)),
                      ((1, 5), (0,)), ((), (0,)), None, ((True, 3), (0, 2)), (tuple(range(5)) * 3, (0,))):
            self.assert_question("decision", (5, F, lists), False)
            self.assert_question("joint", (5, (F,), F, lists), False)
        for lists in ([(1, 3), (0, 2)], ((3, 1), (0, 2)), ((1, 5), (0, 2)), (), None):
            self.assert_question("cover", (5, lists, (3, 2)), False)
        for choice in ((1, 1), (3,), (3, 2, 1), [3, 2], (3, 2.0), (True, 2), None, 3):
            self.assert_question("cover", (5, LISTS, choice), False)
        self.assert_question("cover", (5, ((0, 1), (3,)), (1, 3)), True)
        self.assert_question("cover", (5, ((0, 1), (3,)), (True, 3)), False)

    def test_how_many_choices(self):
        f = one_term(5, 0, 1)
        point = (0,) * 5
        self.assert_question("decision", (13, f, MORE), True)
        self.assert_question("joint", (13, (f,), f, JUST_SO_MANY), True)
        self.assert_question("joint", (13, (f,), f, MORE), False)
        self.assert_question("cover", (13, JUST_SO_MANY, point), True)
        self.assert_question("cover", (13, MORE, point), False)
        self.assertIs(sheet_holds(("cover", (13, MORE, point), ())), False)
        self.assertIs(sheet_holds(("joint", (13, (f,), f, MORE), ((((), ()),), ((),) * 5))), False)

    def test_polynomials(self):
        for f in ([], None, (((1, 0), 5),), (((1, 0, 0), 1),), (((1, 0), True),), (((41, 0), 1),),
                  (((1, 0), 1), ((0, 1), 1)), 0, F[::-1]):
            self.assert_question("decision", (5, f, LISTS), False)
            self.assert_question("sure", (5, f, (3, 1)), False)
            self.assert_question("joint", (5, (), f, LISTS), False)
            self.assert_question("joint", (5, (F, f), F, LISTS), False)
        for size, kept in ((3000, True), (3001, False)):
            f = dense(5, size)
            self.assert_question("decision", (0, f, ((1,),) * 5), kept)
            self.assert_question("sure", (0, f, (1,) * 5), kept)
            f = tuple((powers, 1) for powers, _ in f)
            self.assert_question("joint", (2, (), f, ((1,),) * 5), kept)
            self.assert_question("joint", (2, (f,), (), ((1,),) * 5), kept)
        for power in (28, 29, 40):
            f = one_term(2, 1, power)
            self.assert_question("decision", (5, f, LISTS), True)
            self.assert_question("sure", (5, f, (3, 1)), True)
            self.assert_question("joint", (5, (), f, LISTS), power == 28)
            self.assert_question("joint", (5, (f,), F, LISTS), power == 28)

    def test_equations(self):
        for many, kept in ((0, True), (12, True), (13, False)):
            self.assert_question("joint", (5, (F,) * many, F, LISTS), kept)
        for equations in ([F], F, None, (F, None), 0):
            self.assert_question("joint", (5, equations, F, LISTS), False)

    def test_lengths(self):
        for lengths, kept in (((1, 1), True), ((12, 1), True), ((13, 1), False), ((0, 1), False), ((1, True), False),
                              ((1, 1.0), False), ([1, 1], False), ((1,), False), ((1, 1, 1), False), (None, False),
                              ((), False)):
            self.assert_question("sure", (5, F, lengths), kept)
            self.assert_question("lengths", ((2, ((0, 1),)), lengths), kept)
        self.assert_question("sure", (5, (), ()), False)
        self.assert_question("sure", (5, (), (1,) * 10), True)
        self.assert_question("sure", (5, (), (1,) * 11), False)

    def test_webs_and_numbers(self):
        for name, least, most in (("way", 0, 16), ("lengths", 1, 12), ("game", 0, 12)):
            for web in (ONE, BARE, PATH, RING, LARGEST, SIDES, complete(5)):
                self.assert_question(name, (web, (least,) * web[0]), True)
                self.assert_question(name, (web, (most,) * web[0]), True)
                self.assert_question(name, (web, (most + 1,) * web[0]), False)
                self.assert_question(name, (web, (most,) * (web[0] - 1) + (most + 1,)), False)
                self.assert_question(name, (web, (least - 1,) * web[0]), False)
                self.assert_question(name, (web, (True,) * web[0]), False)
                self.assert_question(name, (web, [1] * web[0]), False)
                self.assert_question(name, (web, (1,) * (web[0] + 1)), False)
                self.assert_question(name, (list(web), (1,) * web[0]), False)
            for web in (None, (2, ((1, 0),)), (2, [(0, 1)]), (2,), (True, ()), (11, ()), (2, ((0, 1), (0, 1)))):
                self.assert_question(name, (web, (1, 1)), False)


class Held(unittest.TestCase):
    def test_spoilt_ones(self):
        self.assertIs(sheet_holds(("lengths", ((2, ((0, 1),)), (2, 1)), (0,))), True)
        for name in KINDS:
            good = sheet(name, GOOD[name])
            for value in (list(good), good[:2], good + ((),), (good,), (None,) + good[1:],
                          (name, list(good[1]), good[2]), (name, good[2], good[1]), (name, good[1], None),
                          (name, good[1], ()) if name != "way" else None, (name, good[1], list(good[2])),
                          (name.upper(),) + good[1:]):
                self.assertIs(sheet_holds(value), False, value)
            for other in KINDS:
                if other != name and GOOD[other] != GOOD[name]:
                    self.assertIs(sheet_holds((other,) + good[1:]), False, (other, name))
                    self.assertIs(sheet_holds((name, good[1], sheet(other, GOOD[other])[2])), False, (name, other))
            for value in ODD_VALUES:
                self.assertIs(sheet_holds((value,) + good[1:]), False, value)
                self.assertIs(sheet_holds((name, value, good[2])), False, value)
                self.assertIs(sheet_holds((name, good[1], value)), False, value)
                for question in NONE.get(name, ()):
                    self.assertIs(sheet_holds((name, question, value)), False, value)

    def test_picks_are_no_joint_sheets(self):
        self.assertIs(sheet_holds(("joint", (5, (), F, LISTS), ("pick", (1, 0)))), False)
        self.assertIs(sheet_holds(("joint", (5, (F, NOUGHT), F, LISTS), ("paper", sheet("joint", GOOD["joint"])[2]))),
                      False)

    def test_values_of_every_kind(self):
        for value in ODD_VALUES + ((), ("way",), ("way", (), ())):
            self.assertIs(sheet_holds(value), False, value)

    def test_wrong_sheets(self):
        good = [sheet(name, GOOD[name]) for name in KINDS]
        self.assertEqual((wrong_sheets(good), wrong_sheets(tuple(good)), wrong_sheets([]), wrong_sheets(())),
                         ((), (), (), ()))
        mixed = [None, good[0], list(good[1]), good[2], good[3][:2], good[4], 7]
        for rows in (mixed, tuple(mixed)):
            self.assertEqual(wrong_sheets(rows), (0, 2, 4, 6))
            self.assertIs(type(wrong_sheets(rows)), tuple)
        for value in ODD_VALUES:
            if isinstance(value, (list, tuple)):
                self.assertEqual(wrong_sheets(value), tuple(range(len(value))))
            else:
                assert_raised(self, InvalidQuestion, 0, lambda: wrong_sheets(value))


if __name__ == "__main__":
    unittest.main()
