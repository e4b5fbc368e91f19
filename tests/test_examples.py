"""The examples of DOC.md, with just the answers that it shows."""

import doctest
import importlib
import unittest

from interface import CLASSES, LANDED

CHAPTER_3 = """
>>> f = polynomial_of(5, 2, [((1, 0), 1), ((0, 1), -1)])
>>> f, degree(f), times(5, f, f), worth(5, f, (3, 1)), put_in(5, f, 1, 2)
((((0, 1), 4), ((1, 0), 1)), 1, (((0, 2), 1), ((1, 1), 3), ((2, 0), 1)), 2, (((0, 0), 3), ((1, 0), 1)))
>>> lists = lists_of(5, [[3, 1, 1], [1]])
>>> lists, picks(5, f, lists), first_pick(5, f, ((2,), (2,))), list_product(5, 2, 0, (1, 3)), inverse(5, 2)
(((1, 3), (1,)), ((3, 1),), None, (((0, 0), 3), ((1, 0), 1), ((2, 0), 1)), 3)
"""

CHAPTER_4 = """
>>> f = (((0, 1), 2), ((2, 0), 1))
>>> divided_by(5, f, 0, (1, 3)), divided(5, f, ((1, 3), (0, 2)))[1], least_form(5, f, ((1, 3), (4,)))
(((((0, 0), 1),), (((0, 0), 2), ((0, 1), 2), ((1, 0), 4))), (((0, 0), 2), ((0, 1), 2), ((1, 0), 4)), (((1, 0), 4),))
>>> table_of(5, f, ((1, 3), (0, 2))), form_of(5, ((1, 3), (0, 2)), (1, 0, 4, 3)), form_of(0, ((0, 2),), (0, 1)), mark_of(0, ((0, 2), (5, 6)), (2, 5))
((1, 0, 4, 3), (((0, 0), 2), ((0, 1), 2), ((1, 0), 4)), None, (((1, 0), -6), ((1, 1), 1)))
>>> are_alike(2, (((2,), 1),), (((1,), 1),), ((0, 1),)), are_alike(0, (((2,), 1),), (((1,), 1),), ((0, 1, 2),))
(True, False)
"""

CHAPTER_5 = """
>>> f = (((0, 2), 4), ((2, 0), 1))
>>> decided(5, f, ((1, 4), (1, 4)))[0], decided(5, f, ((1,), (1, 2))), is_vanishing_paper(5, f, ((1, 4), (1, 4)), ((((0, 0), 1),), (((0, 0), 4),)))
('paper', ('pick', (1, 2)), True)
>>> paper_sum(5, ((1, 4), (1, 4)), ((((0, 0), 1),), ())), is_decision(5, f, ((1, 4), (1, 2)), ("pick", (1, 1))), is_decision(5, f, ((1, 4), (1, 2)), ("pick", (4, 2)))
((((0, 0), 4), ((2, 0), 1)), False, True)
>>> solved(3, ((((1, 1), 1),),), (((0, 0), 1),), ((1, 2), (1, 2)))[0], solved(3, ((((1, 1), 1),),), (((0, 0), 1),), ((1,), (0, 1)))
('paper', ('pick', (1, 0)))
"""

CHAPTER_6 = """
>>> f = (((0, 2), 1), ((1, 1), 2), ((2, 0), 1))
>>> differences(5, ((1, 3), (0, 2)), (1, 2)), weighted_sum(5, f, ((1, 3), (0, 2))), top_factor(5, f, ((1, 3), (0, 2))), top_factor(5, f, ((1,), (2,)))
(1, 2, 2, 4)
>>> weighted_sum(0, (((3,), 1),), ((1, 4),)), sure_powers(f, (2, 2)), is_sure(f, (3, 1), (2, 0)), shortened(((1, 3), (0, 2, 4)), (0, 1))
(21, (1, 1), True, ((1,), (0, 2)))
>>> led(5, f, ((1, 4), (1, 4))), sure_choice(5, f, ((1, 2, 4), (3,)), (2, 0)), led(5, f, ((0, 1, 2), (0, 1)))
(((1, 2), (1, 4)), (1, 3), None)
"""

CHAPTER_7 = """
>>> least_shape((3, 2, 4), 2), fewest_condition(5, ((0, 1), (1, 2, 4)), 2), vote_boxes(((0, 1, 3), (2, 4)), (1, 0))
((2, 1, 4), (((1, 0), 4), ((1, 1), 1)), (((0, 1), (2,)), ((0, 1), (4,))))
>>> lists = ((0, 1), (0, 1, 2))
>>> check_sums(3, lists, 1, (0, 1, 2, 1, 2, 0)), filled(3, lists, 1, (None, 1, 2, 1, 2, None))
((0, 0, 0), (0, 1, 2, 1, 2, 0))
>>> votes(2, ((0, 1),) * 3, (1, 0, 1, 0, 0, 0, 0, 1), (1, 0, 0)), mended(2, ((0, 1),) * 2, 0, (1, 0, 1, 1)), sure_mends((2, 2, 2), 1)
((1, 0, 1, 1), (((0, 0), 1),), 1)
"""

CHAPTER_8 = """
>>> plane_holds(5, ((1, 2), 0), (3, 1)), plane_polynomial(5, ((1, 2), 3)), left_over(3, ((0, 1), (0, 2)), (((1, 1), 0),))
(True, (((0, 0), 2), ((0, 1), 2), ((1, 0), 1)), ((0, 2), (1, 0)))
>>> least_cover(7, ((0, 1, 3), (2, 5)), (1, 2)), other_left(7, ((0, 1, 3), (2, 5)), (1, 2), (((1, 0), 0), ((0, 1), 5)))
((((0, 1), 5), ((1, 0), 0), ((1, 0), 3)), (3, 2))
>>> fewest_planes((3, 4), 3), cover_leaving(7, ((0, 1, 3), (2, 5)), 2), whole_cover(7, ((0, 1, 3), (2, 5)))
(3, (((0, 1), 2), ((1, 0), 0)), (((0, 1), 2), ((0, 1), 5)))
>>> least_meeting(3, 2), missed_plane(3, 2, ((0, 0), (0, 1), (1, 0), (2, 2)))
(((0, 0), (0, 1), (0, 2), (1, 0), (2, 0)), ((1, 1), 2))
"""

CHAPTER_9 = """
>>> sums(7, ((0, 1, 3), (2, 5))), sum_choice(7, ((0, 1, 3), (2, 5)), 6), fewest_sums(7, (3, 2)), least_sum_lists((3, 2))
((1, 2, 3, 5, 6), (1, 5), 4, ((0, 1, 2), (0, 1)))
>>> sums_factor(7, (3, 2)), sums_factor(3, (3, 2)), sum_outside(5, ((0, 1, 2), (0, 1)), (0, 1, 2))
(3, 0, (2, 1))
>>> unlike_sums(0, ((0, 1, 2), (0, 1, 2))), unlike_lengths((3, 1, 3)), fewest_unlike(0, (3, 3)), fewest_unlike(7, (4, 4, 4)), unlike_factor(11, (1, 3))
((1, 2, 3), (2, 1, 3), 3, 4, 1)
"""

CHAPTER_10 = """
>>> f = polynomial_of(3, 3, [((1, 1, 0), 1), ((0, 0, 1), 1)])
>>> load(3, (f,)), len(common_zeros(3, (f,), all_lists(3, 3))), fewest_zeros(3, (f,), all_lists(3, 3)), weight_sum(3, (f,), all_lists(3, 3))
(4, 9, 3, 0)
>>> common_zeros(3, (f,), ((0, 1),) * 3), second_zero(3, (f,), ((0, 1), (0, 1), (0,)), (0, 1, 0)) is None, weight_sum(3, (f,), ((0, 2), (1, 2), (2,)))
(((0, 0, 0), (0, 1, 0), (1, 0, 0)), False, 2)
>>> total_worth(3, 2, (((2, 2), 1), ((2, 4), 1), ((4, 0), 1))), all_lists(3, 2), zero_unknowns(5, 2, 1)
(2, ((0, 1, 2), (0, 1, 2)), ((((1, 0), 1),),))
"""

CHAPTER_11 = """
>>> marks = ((1, 2), (2, 0), (0, 1), (1, 0), (2, 2))
>>> enough((3, 3)), zero_count((3, 3), marks), sign_count((3, 3), marks), is_zero_lot((3, 3), marks, (0, 1, 2)), adds_up((3, 3), marks, (0, 4))
(5, 4, 0, True, (0, 1))
>>> fewest_lots((2, 4), 7), lacking_marks((2, 3)), share_lot(3, (1, 0, 0, 1)), share_lot(2, (5, 2, 7))
(8, ((1, 0), (0, 1), (0, 1)), None, (0, 2))
>>> lot_condition((3,), ((1,), (2,))), zero_lot((3,), ((1,), (1,), (2,))) in ((0, 2), (1, 2))
((((0, 0), 1), ((0, 1), 2), ((1, 0), 2), ((1, 1), 2)), True)
"""

CHAPTER_12 = """
>>> ring = (4, ((0, 1), (0, 3), (1, 2), (2, 3)))
>>> outs(ring, (0, 1, 0, 0)), round_counts(ring, (0, 1, 0, 0)), ways_with(ring, (1, 1, 1, 1)), even_length(ring), two_sides(ring) is None
((1, 1, 1, 1), (2, 0), ((0, 1, 0, 0), (1, 0, 1, 1)), 2, False)
>>> web_polynomial(0, (3, ((0, 1), (1, 2)))), colouring(ring, ((1, 2), (1, 2), (2, 3), (1, 3)))
((((0, 1, 1), 1), ((0, 2, 0), -1), ((1, 0, 1), -1), ((1, 1, 0), 1)), (2, 1, 2, 1))
>>> is_length_paper(ring, (2, 2, 2, 2), (0, 1, 0, 0)), thickest(ring), way_within(ring, (1, 1, 0, 1)), round_lots(ring, (0, 1, 0, 0))
(True, 1, ('lot', (0, 1, 2, 3)), ((), (0, 1, 2, 3)))
"""

CHAPTER_13 = """
>>> ring = (4, ((0, 1), (0, 3), (1, 2), (2, 3)))
>>> house_wins(ring, (2, 2, 2, 2)), game_paper(ring, (2, 2, 2, 2)), is_answer(ring, (2, 1, 2, 2), (0, 1), (1,)), after((2, 1, 2, 2), (0, 1), (1,))
(True, (1, 1, 1, 1), True, (1, 0, 2, 2))
>>> losing_offer((3, ((0, 1), (0, 2), (1, 2))), (2, 2, 2))
(0, 1, 2)
>>> colouring_by_game(ring, ((1, 2), (1, 3), (1, 2), (2, 3))) is None, colouring_by_game((2, ((0, 1),)), ((5,), (5,))), coloured_at((2, ((0, 1),)), (1, 2), [(0, 1), (1,)])
(False, None, (0, 1))
"""

CHAPTER_14 = """
>>> three = (3, ((0, 1), (0, 2), (1, 2)))
>>> enough_ties(3, three), enough_ties(4, three), lacking_bundle(3, three), divided_part(3, three, (2, 2, 2)), part_count(3, three, (3, 2, 2)), fewest_parts(3, three, 7)
(7, 8, (2, 2, 2), None, 2, 2)
>>> five = (5, ((0, 1), (0, 2), (0, 3), (0, 4), (1, 2), (1, 3), (1, 4), (2, 3), (2, 4), (3, 4)))
>>> more = (2, 1, 1, 1, 1, 1, 1, 1, 1, 1)
>>> tie_numbers(five, more), enough_ties(3, five), is_equal(3, five, more, divided_part(3, five, more))
((5, 5, 4, 4, 4), 11, True)
>>> web_pieces((4, ((0, 2),))), tie_moduli(4, three), tie_marks(4, three)
(((0, 2), (1,), (3,)), (4, 4, 2), ((1, 0, 1), (0, 1, 1), (1, 1, 1)))
"""

CHAPTER_15 = """
>>> read_question("field 5;list a: 1, 0;list b: 2; pick not [a + b like 2] or a unlike b;")[2:]
(((0, 1), (2,)), ('some', (('not', ('like', (('add', (('of', 0), ('of', 1))), ('is', 2)))), ('unlike', (('of', 0), ('of', 1))))))
>>> c, lists = ("not", ("unlike", (("of", 0), ("of", 1), ("is", 2)))), ((0, 1), (0, 2, 4))
>>> held(5, lists, c), told_degree(5, lists, c)
(((0, 0), (0, 2), (1, 2)), 12)
"""

CHAPTER_16 = """
>>> def less(u, v):
...     return plus(0, unknown(0, 4, u), scaled(0, unknown(0, 4, v), -1))
>>> ring = (less(0, 1), less(1, 2), less(2, 3), less(0, 3))
>>> touched(ring[3]), reach_along(4, ring, (0, 1, 2, 3)), width_along(4, ring, (1, 0, 2, 3)), least_width(4, ring), least_width(4, ring[:3])
((0, 3), ((1, 3), (2, 3), (3,), ()), 2, 2, 1)
>>> factor_along(0, 4, ring, (1, 1, 1, 1), (0, 1, 2, 3)), piece_sizes(0, 4, ring, (1, 1, 1, 1), (0, 1, 2, 3)), pick_count(0, ring, ((1, 2),) * 4, (3, 2, 1, 0))
(-2, (2, 2, 1, 1), 2)
"""

CHAPTER_17 = """
>>> f = (((0, 1), 4), ((1, 0), 1))
>>> life = begun(5, 2, (f,), ((1, 2), (1,)))
>>> life[4], carried(life, ("strike", 0, 2)), changed(life, ("strike", 0, 2))[4][0], is_change(life, ("strike", 1, 1))
(('pick', (2, 1)), None, 'paper', False)
>>> later = lived(life, [("strike", 0, 2), ("more", f), ("add", 1, 3)])
>>> later[3:], diary(life, [("strike", 0, 2), ("more", f), ("add", 1, 3)]), whole_condition(5, 2, ())
((((1,), (1, 3)), ('pick', (1, 3))), (('paper', False), ('paper', True), ('pick', False)), (((0, 0), 1),))
"""

CHAPTER_18 = """
>>> house = House("field 5; list a: 1, 2; list b: 1; pick a unlike b;")
>>> house.answer(), house.sure(), house.do(("strike", 0, 2)), house.answer()[0], len(house), house.undo(), house.names()
(('pick', (2, 1)), (1, 0), None, 'paper', 1, True, ('a', 'b'))
>>> desk = Desk()
>>> desk.load("field 0; list x: 3, -1; list y: 3; pick x unlike y;"), desk.say("pick"), desk.say("strike x -1"), desk.say("pick"), desk.say("undo"), desk.say("list x"), desk.say("sure")
('ok', 'x -1 y 3', 'ok', 'none', 'ok', '-1 3', 'yes')
>>> sheet("way", ((2, ((0, 1),)), (1, 0))), sheet_holds(("lengths", ((2, ((0, 1),)), (2, 1)), (0,)))
(('way', ((2, ((0, 1),)), (1, 0)), ('way', (0,))), True)
"""


def everything():
    """All names, as a dict."""
    names = {}
    for file in list(LANDED) + [file for file, _, _ in CLASSES.values()]:
        names.update(vars(importlib.import_module("listpicks." + file)))
    return names


class Examples(unittest.TestCase):
    def run_text(self, text):
        test = doctest.DocTestParser().get_doctest(text, everything(), "example", None, 0)
        self.assertTrue(test.examples)
        told = []
        doctest.DocTestRunner(verbose=False).run(test, out=told.append)
        self.assertEqual("".join(told), "")

    def test_chapter_3(self):
        self.run_text(CHAPTER_3)

    def test_chapter_4(self):
        self.run_text(CHAPTER_4)

    def test_chapter_5(self):
        self.run_text(CHAPTER_5)

    def test_chapter_6(self):
        self.run_text(CHAPTER_6)

    def test_chapter_7(self):
        self.run_text(CHAPTER_7)

    def test_chapter_8(self):
        self.run_text(CHAPTER_8)

    def test_chapter_9(self):
        self.run_text(CHAPTER_9)

    def test_chapter_10(self):
        self.run_text(CHAPTER_10)

    def test_chapter_11(self):
        self.run_text(CHAPTER_11)

    def test_chapter_12(self):
        self.run_text(CHAPTER_12)

    def test_chapter_13(self):
        self.run_text(CHAPTER_13)

    def test_chapter_14(self):
        self.run_text(CHAPTER_14)

    def test_chapter_15(self):
        self.run_text(CHAPTER_15)

    def test_chapter_16(self):
        self.run_text(CHAPTER_16)

    def test_chapter_17(self):
        self.run_text(CHAPTER_17)

    def test_chapter_18(self):
        self.run_text(CHAPTER_18)


if __name__ == "__main__":
    unittest.main()
