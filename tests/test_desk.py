"""Point [77]: desks and their commands."""

import unittest

from asking import assert_raised
from draws import ODD_VALUES, Draws
from listpicks.desk import Desk
from listpicks.errors import InvalidCommand, InvalidQuestion, InvalidText, Refused
from listpicks.houses import House
from listpicks.livingchanges import is_change

TEXT = "field 0; list x: 3, -1; list y: 3; pick x unlike y;"


def loaded(text=TEXT):
    desk = Desk()
    desk.load(text)
    return desk


class Desks(unittest.TestCase):
    def assert_unknown(self, desk, *commands):
        """None of these is a command; nothing changes by them."""
        before = desk.house and (desk.house.life(), len(desk.house))
        for command in commands:
            with self.assertRaises(InvalidCommand) as caught:
                desk.say(command)
            self.assertIs(type(caught.exception), InvalidCommand)
            self.assertEqual(desk.house and (desk.house.life(), len(desk.house)), before, command)

    def test_each_command(self):
        desk = Desk()
        self.assertIs(desk.house, None)
        self.assertEqual(desk.load(TEXT), "ok")
        self.assertIsInstance(desk.house, House)
        self.assertEqual(desk.house.names(), ("x", "y"))
        for command, wanted in (("pick", "x -1 y 3"), ("strike x -1", "ok"), ("pick", "none"), ("sure", "no"),
                                ("list x", "3"), ("add y 0", "ok"), ("list y", "0 3"), ("pick", "x 3 y 0"),
                                ("sure", "yes"), ("undo", "ok"), ("list y", "3"), ("undo", "ok"), ("list x", "-1 3"),
                                ("undo", "nothing"), ("sure", "yes"), ("add x -99999", "ok"), ("add x 99999", "ok"),
                                ("list x", "-99999 -1 3 99999"), ("undo", "ok"), ("add y -10", "ok"),
                                ("strike y -10", "ok"), ("add y -7", "ok"), ("list y", "-7 3")):
            found = desk.say(command)
            self.assertEqual(found, wanted)
            self.assertIs(type(found), str)

    def test_drawn_commands(self):
        draws = Draws(531)
        for _ in range(30):
            p = draws.one_of((0, 5))
            text = "field {}; list a: 1, 2; list _b: 0, 3, 4; pick a + _b unlike 4 and a unlike 2 * _b;".format(p)
            desk, house = loaded(text), House(text)
            for _ in range(12):
                kind = draws.below(6)
                at = draws.below(2)
                name = ("a", "_b")[at]
                if kind < 3:
                    word, one = draws.one_of(("strike", "add")), draws.element(p, 5)
                    command = "{} {} {}".format(word, name, one)
                    if is_change(house.life(), (word, at, one)):
                        self.assertEqual(desk.say(command), "ok")
                        house.do((word, at, one))
                    else:
                        assert_raised(self, InvalidQuestion, 1, lambda: desk.say(command))
                elif kind == 3:
                    self.assertEqual(desk.say("undo"), "ok" if house.undo() else "nothing")
                elif kind == 4:
                    self.assertEqual(desk.say("list " + name), " ".join(map(str, house.life()[3][at])))
                else:
                    word, choice = house.answer()
                    self.assertEqual(desk.say("pick"), "none" if word == "paper" else "a {} _b {}".format(*choice))
                    self.assertEqual(desk.say("sure"), "no" if house.sure() is None else "yes")
                self.assertEqual((desk.house.life(), len(desk.house)), (house.life(), len(house)))

    def test_before_anything_is_loaded(self):
        desk = Desk()
        self.assert_unknown(desk, "pick", "sure", "undo", "list x", "strike x 3", "add x 5", "", None, "load")
        with self.assertRaises(InvalidText):
            desk.load("field 5;")
        self.assertIs(desk.house, None)
        self.assert_unknown(desk, "pick")

    def test_texts_that_cannot_be_loaded(self):
        desk = loaded()
        desk.say("strike x 3")
        house, life = desk.house, desk.house.life()
        for value in [one for one in ODD_VALUES if not isinstance(one, str)]:
            assert_raised(self, InvalidText, 0, lambda: desk.load(value))
        assert_raised(self, InvalidText, 3, lambda: desk.load("field 5;"))
        four = "x*x*x*x unlike 1"
        text = "field 5; list x: 1; pick " + " and ".join([four] * 9) + " and [" + four + " and " + four + "];"
        assert_raised(self, Refused, 44, lambda: desk.load(text))
        self.assertIs(desk.house, house)
        self.assertEqual((desk.house.life(), len(desk.house)), (life, 1))
        self.assertEqual(desk.say("undo"), "ok")
        self.assertEqual(desk.load(TEXT), "ok")
        self.assertIsNot(desk.house, house)
        self.assertEqual(desk.say("undo"), "nothing")

    def test_forms(self):
        desk = loaded()
        desk.say("add y 4")
        self.assert_unknown(
            desk, "", " ", "pick ", " pick", "pick  ", "pick\n", "\npick", "pick x", "picks", "Pick", "PICK", "pick\t",
            "sure x", "sure ", "sures", "undo 1", "undo ", " undo", "undo\n", "list", "list ", "list  x", "list x ",
            " list x", "list x y", "list x\n", "list\nx", "list\tx", "list z", "list X", "list x,", "lists x", "strike",
            "strike x", "strike x ", "strike  x 3", "strike x  3", "strike x 3 ", " strike x 3", "strike x 3 3",
            "strike x 3\n", "strike\nx 3", "strike x\n3", "strike z 3", "strike X 3", "strike 3 x", "strike 0 3",
            "Strike x 3", "add", "add x", "add x 5 5", "add x 5 ", "add  x 5", "add z 5", "more x 5", "less 0",
            "do x 5", "x", "3", "house", "load", "none", "ok", "strike x x", "add x y", "add x five")

    def test_elements(self):
        desk = loaded()
        self.assert_unknown(desk, "add x 05", "add x 00", "add x 007", "add x -0", "add x -00", "add x -05", "add x +5",
                            "add x 5.0", "add x 5a", "add x a5", "add x 100000", "add x -100000", "add x 123456",
                            "add x --5", "add x -", "add x 5-", "add x - 5", "add x 1_0", "add x \u0665",
                            "add x \u00b2", "add x 0x1", "add x 1e3", "strike x 03", "strike x -01", "add x 5\n")
        for told, one in (("0", 0), ("5", 5), ("99999", 99999), ("-1", -1), ("-99999", -99999), ("10", 10),
                          ("-10", -10)):
            desk = loaded("field 0; list x: 1; pick x like x;")
            self.assertEqual(desk.say("add x " + told), "ok")
            self.assertEqual(desk.house.life()[3], (tuple(sorted((1, one))),))

    def test_changes_that_cannot_be_made(self):
        desk = loaded("field 5; list x: 3, 1; list y: 3; pick x unlike y;")
        life = desk.house.life()
        for command in ("strike x 2", "strike y 3", "add x 1", "add x 5", "add x -1", "strike x 99999", "strike x -3",
                        "add y 3"):
            assert_raised(self, InvalidQuestion, 1, lambda: desk.say(command))
            self.assertEqual((desk.house.life(), len(desk.house)), (life, 0))
        desk = loaded("field 13; list x: 0, 1, 2, 3, 4, 5, 6, 7, 8, 9, 10, 11; pick x unlike 12;")
        assert_raised(self, InvalidQuestion, 1, lambda: desk.say("add x 12"))

    def test_no_strings(self):
        desk = loaded()
        self.assert_unknown(desk, *[one for one in ODD_VALUES if one != "pick"], b"pick", ["pick"], ("list", "x"))

    def test_names_like_commands(self):
        desk = loaded("field 5; list strike: 1, 2; list undo: 3; list add: 4; list sure: 0; pick strike unlike undo;")
        self.assertEqual(desk.say("pick"), "strike 1 undo 3 add 4 sure 0")
        self.assertEqual((desk.say("strike strike 1"), desk.say("add undo 2"), desk.say("list undo")),
                         ("ok", "ok", "2 3"))
        self.assertEqual((desk.say("add add 1"), desk.say("list add"), desk.say("list sure"), desk.say("sure")),
                         ("ok", "1 4", "0", "yes"))

    def test_long_elements_of_the_text(self):
        desk = loaded("field 0; list x: 1, -{0}; list y: {0}; pick x unlike 1;".format("9" * 30))
        self.assertEqual(desk.say("pick"), "x -{0} y {0}".format("9" * 30))
        self.assertEqual(desk.say("list x"), "-{} 1".format("9" * 30))

    def test_no_object_equals_another_thing(self):
        for value in ODD_VALUES:
            self.assertIs(Desk() == value, False)


if __name__ == "__main__":
    unittest.main()
