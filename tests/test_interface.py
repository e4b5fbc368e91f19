"""The interface: where things are defined, by which names arguments are passed, and that arguments stay."""

import copy
import importlib
import inspect
import unittest

from draws import only_tuples
from interface import CLASSES, ERRORS, listed, split

F = (((0, 1), 2), ((2, 0), 1))
LISTS = ((1, 3), (0, 2))
RING = (4, ((0, 1), (0, 3), (1, 2), (2, 3)))
PATH = (3, ((0, 1), (1, 2)))
THREE = (3, ((0, 1), (0, 2), (1, 2)))
LESS = ("unlike", (("of", 0), ("of", 1)))
QUESTION = (5, ("a", "b"), LISTS, LESS)
TEXT = "field 5;list a:1,3;list b:0,2;pick a unlike b;"
LINKED = ((((0, 1, 0), 4), ((1, 0, 0), 1)), (((0, 0, 1), 4), ((0, 1, 0), 1)))
LIFE = (5, 2, (F,), LISTS, ("pick", (1, 0)))

# For each function arguments by which it can be asked, and what it tells then.
ASKED = {
    "is_field": ((7,), True),
    "element": ((7, -1), 6),
    "inverse": ((7, 3), 5),
    "is_polynomial": ((5, 2, F), True),
    "polynomial_of": ((5, 2, [([2, 0], 1), ((0, 1), 7)]), F),
    "degree": ((F,), 2),
    "factor_of": ((F, (0, 1)), 2),
    "plus": ((5, F, (((0, 1), 3),)), (((2, 0), 1),)),
    "times": ((5, F, (((0, 1), 3),)), (((0, 2), 1), ((2, 1), 3))),
    "scaled": ((5, F, 3), (((0, 1), 1), ((2, 0), 3))),
    "constant": ((5, 2, 3), (((0, 0), 3),)),
    "unknown": ((5, 2, 1), (((0, 1), 1),)),
    "worth": ((5, F, (3, 2)), 3),
    "put_in": ((5, F, 0, 3), (((0, 0), 4), ((0, 1), 2))),
    "are_lists": ((5, LISTS), True),
    "lists_of": ((5, [[3, 1], [0, 2, 0]]), LISTS),
    "choice_count": ((LISTS,), 4),
    "choices": ((LISTS,), ((1, 0), (1, 2), (3, 0), (3, 2))),
    "list_product": ((5, 2, 0, (1, 3)), (((0, 0), 3), ((1, 0), 1), ((2, 0), 1))),
    "picks": ((5, F, LISTS), ((1, 0), (3, 0), (3, 2))),
    "first_pick": ((5, F, LISTS), (1, 0)),
    "divided_by": ((5, F, 0, (1, 3)), ((((0, 0), 1),), (((0, 0), 2), ((0, 1), 2), ((1, 0), 4)))),
    "divided": ((5, F, LISTS), (((((0, 0), 1),), ()), (((0, 0), 2), ((0, 1), 2), ((1, 0), 4)))),
    "least_form": ((5, F, LISTS), (((0, 0), 2), ((0, 1), 2), ((1, 0), 4))),
    "are_alike": ((5, F, (((0, 0), 2), ((0, 1), 2), ((1, 0), 4)), LISTS), True),
    "table_of": ((5, F, LISTS), (1, 0, 4, 3)),
    "form_of": ((5, LISTS, (1, 0, 4, 3)), (((0, 0), 2), ((0, 1), 2), ((1, 0), 4))),
    "mark_of": ((5, LISTS, (1, 0)), (((0, 0), 1), ((0, 1), 2), ((1, 0), 3), ((1, 1), 1))),
    "paper_sum": ((5, LISTS, ((((0, 0), 1),), ())), (((0, 0), 3), ((1, 0), 1), ((2, 0), 1))),
    "is_vanishing_paper": ((5, (((0, 0), 3), ((1, 0), 1), ((2, 0), 1)), LISTS, ((((0, 0), 1),), ())), True),
    "vanishing_paper": ((5, (((0, 0), 3), ((1, 0), 1), ((2, 0), 1)), LISTS), ((((0, 0), 1),), ())),
    "decided": ((5, (((0, 0), 3), ((1, 0), 1), ((2, 0), 1)), LISTS), ("paper", ((((0, 0), 1),), ()))),
    "is_decision": ((5, F, LISTS, ("pick", (1, 0))), True),
    "joint_sum": ((5, (F,), LISTS, (((((0, 0), 2),),), ((((0, 0), 1),), ()))),
                  (((0, 0), 3), ((0, 1), 4), ((1, 0), 1), ((2, 0), 3))),
    "is_joint_paper": ((5, (F,), F, LISTS, (((((0, 0), 1),),), ((), ()))), True),
    "solved": ((5, (F,), (((0, 0), 2),), LISTS), ("pick", (1, 2))),
    "weighted_sum": ((5, F, ((1, 3), (0,))), 4),
    "differences": ((5, LISTS, (1, 0)), 4),
    "top_factor": ((5, F, ((1, 3), (0,))), 4),
    "sure_powers": ((F, (3, 1)), (2, 0)),
    "is_sure": ((F, (3, 1), (2, 0)), True),
    "shortened": ((LISTS, (0, 1)), ((1,), (0, 2))),
    "led": ((5, F, ((1, 3), (0,))), ((1, 1), (0, 1))),
    "sure_choice": ((5, F, ((1, 2, 4), (3,)), (2, 0)), (1, 3)),
    "least_shape": (((3, 2, 4), 2), (2, 1, 4)),
    "least_picks": (((3, 2, 4), 2), 8),
    "fewest_condition": ((5, ((0, 1), (1, 2, 4)), 2), (((1, 0), 4), ((1, 1), 1))),
    "code_powers": (((2, 3), 1), ((0, 0), (0, 1), (1, 0))),
    "check_sums": ((3, ((0, 1), (0, 1, 2)), 1, (0, 1, 2, 1, 2, 0)), (0, 0, 0)),
    "is_code_table": ((3, ((0, 1), (0, 1, 2)), 1, (0, 1, 2, 1, 2, 0)), True),
    "is_enough": ((3, ((0, 1), (0, 1, 2)), 1, (0, 5)), True),
    "filled": ((3, ((0, 1), (0, 1, 2)), 1, (None, 1, 2, 1, 2, None)), (0, 1, 2, 1, 2, 0)),
    "vote_boxes": ((((0, 1, 3), (2, 4)), (1, 0)), (((0, 1), (2,)), ((0, 1), (4,)))),
    "votes": ((2, ((0, 1),) * 3, (1, 0, 1, 0, 0, 0, 0, 1), (1, 0, 0)), (1, 0, 1, 1)),
    "sure_mends": (((2, 2, 2), 1), 1),
    "mended": ((2, ((0, 1),) * 2, 0, (1, 0, 1, 1)), (((0, 0), 1),)),
    "is_plane": ((5, 2, ((1, 2), 3)), True),
    "plane_holds": ((5, ((1, 2), 0), (3, 1)), True),
    "plane_polynomial": ((5, ((1, 2), 3)), (((0, 0), 2), ((0, 1), 2), ((1, 0), 1))),
    "left_over": ((5, LISTS, (((1, 0), 1), ((1, 1), 0))), ((3, 0),)),
    "is_cover": ((5, LISTS, (3, 0), (((1, 0), 1), ((1, 1), 0))), True),
    "least_cover": ((5, LISTS, (3, 0)), (((0, 1), 2), ((1, 0), 1))),
    "other_left": ((5, LISTS, (3, 0), (((1, 0), 1),)), (3, 2)),
    "fewest_planes": (((3, 4), 3), 3),
    "cover_leaving": ((5, LISTS, 1), (((1, 0), 1),)),
    "whole_cover": ((5, LISTS), (((1, 0), 1), ((1, 0), 3))),
    "missed_plane": ((3, 2, ((0, 0), (0, 1), (1, 0), (2, 2))), ((1, 1), 2)),
    "is_meeting": ((2, 2, ((0, 0), (0, 1), (1, 0))), True),
    "least_meeting": ((2, 2), ((0, 0), (0, 1), (1, 0))),
    "sums": ((5, LISTS), (0, 1, 3)),
    "sum_choice": ((5, LISTS, 0), (3, 2)),
    "fewest_sums": ((5, (2, 2)), 3),
    "least_sum_lists": (((2, 3),), ((0, 1), (0, 1, 2))),
    "sum_outside": ((5, LISTS, (1, 3)), (3, 2)),
    "unlike_sums": ((5, ((0, 1), (0, 1))), (1,)),
    "unlike_choice": ((5, LISTS, 0), (3, 2)),
    "unlike_lengths": (((3, 1, 3),), (2, 1, 3)),
    "fewest_unlike": ((7, (4, 4, 4)), 4),
    "sums_factor": ((7, (3, 2)), 3),
    "unlike_factor": ((11, (1, 3)), 1),
    "common_zeros": ((5, (F,), LISTS), ((1, 2),)),
    "load": ((5, (F, ())), 8),
    "weight_sum": ((5, (F,), LISTS), 1),
    "second_zero": ((5, (), ((1,), (0, 2)), (1, 0)), (1, 2)),
    "fewest_zeros": ((3, ((((1, 0, 0), 1),),), ((0, 1, 2),) * 3), 9),
    "all_lists": ((3, 2), ((0, 1, 2), (0, 1, 2))),
    "total_worth": ((3, 2, (((2, 2), 1), ((2, 4), 1))), 2),
    "zero_unknowns": ((5, 2, 1), ((((1, 0), 1),),)),
    "adds_up": (((3, 3), ((1, 2), (2, 2)), (0, 1)), (0, 1)),
    "is_zero_lot": (((3,), ((1,), (2,)), (0, 1)), True),
    "zero_count": (((3,), ((1,), (2,))), 2),
    "sign_count": (((3,), ((1,), (2,))), 2),
    "zero_lot": (((3,), ((1,), (2,))), (0, 1)),
    "enough": (((2, 4),), 5),
    "lacking_marks": (((2, 3),), ((1, 0), (0, 1), (0, 1))),
    "fewest_lots": (((2, 4), 7), 8),
    "lot_condition": (((3,), ((1,), (2,))), (((0, 0), 1), ((0, 1), 2), ((1, 0), 2), ((1, 1), 2))),
    "share_lot": ((2, (5, 2, 7)), (0, 2)),
    "lacking_numbers": ((3,), (0, 0, 1, 1)),
    "is_web": ((RING,), True),
    "web_polynomial": ((3, (2, ((0, 1),))), (((0, 1), 2), ((1, 0), 1))),
    "is_colouring": ((PATH, ((1,), (1, 2), (1,)), (1, 2, 1)), True),
    "colouring": ((PATH, ((1,), (1, 2), (1,))), (1, 2, 1)),
    "is_way": ((PATH, (0, 1)), True),
    "outs": ((RING, (0, 1, 0, 0)), (1, 1, 1, 1)),
    "ways_with": ((RING, (1, 1, 1, 1)), ((0, 1, 0, 0), (1, 0, 1, 1))),
    "way_within": ((RING, (1, 1, 0, 1)), ("lot", (0, 1, 2, 3))),
    "is_within": ((PATH, (1, 1, 0), ("way", (0, 0))), True),
    "round_lots": ((RING, (0, 1, 0, 0)), ((), (0, 1, 2, 3))),
    "round_counts": ((RING, (0, 1, 0, 0)), (2, 0)),
    "length_paper": ((PATH, (2, 2, 1)), (0, 0)),
    "is_length_paper": ((PATH, (2, 2, 1), (0, 0)), True),
    "even_length": ((RING,), 2),
    "two_sides": (((3, ((0, 1), (0, 2), (1, 2))),), None),
    "thickest": ((RING,), 1),
    "is_stand": ((PATH, (0, 12, 1)), True),
    "is_offer": (((0, 2, 1), (1, 2)), True),
    "is_answer": ((RING, (2, 1, 2, 2), (0, 1), (1,)), True),
    "after": (((2, 1, 2, 2), (0, 1), (1,)), (1, 0, 2, 2)),
    "house_wins": ((RING, (2, 2, 2, 2)), True),
    "losing_offer": (((3, ((0, 1), (0, 2), (1, 2))), (2, 2, 2)), (0, 1, 2)),
    "game_paper": ((RING, (2, 2, 2, 2)), (1, 1, 1, 1)),
    "is_game_paper": ((RING, (2, 2, 2, 2), (1, 1, 1, 1)), True),
    "kept_answer": (((2, ((0, 1),)), (1, 2), (0, 1)), (0,)),
    "played": (((2, ((0, 1),)), (1, 2), [(0, 1), (1,)]), (((0,), (0, 1)), ((1,), (0, 0)))),
    "coloured_at": (((2, ((0, 1),)), (1, 2), [(0, 1)]), (0, None)),
    "colouring_by_game": ((PATH, ((1,), (1, 2), (1,))), None),
    "is_bundle": ((PATH, (3, 0)), True),
    "tie_numbers": ((PATH, (3, 1)), (3, 4, 1)),
    "is_divided": ((2, PATH, (3, 1), (2, 0)), True),
    "is_equal": ((2, PATH, (3, 1), (2, 0)), True),
    "divided_part": ((2, PATH, (2, 1)), (2, 0)),
    "part_count": ((2, PATH, (3, 1)), 4),
    "equal_part": ((2, PATH, (1, 3)), (0, 2)),
    "web_pieces": (((4, ((0, 2),)),), ((0, 2), (1,), (3,))),
    "tie_moduli": ((4, THREE), (4, 4, 2)),
    "tie_marks": ((4, THREE), ((1, 0, 1), (0, 1, 1), (1, 1, 1))),
    "enough_ties": ((3, THREE), 7),
    "lacking_bundle": ((3, PATH), (2, 2)),
    "fewest_parts": ((3, THREE, 8), 4),
    "is_condition": ((2, LESS), True),
    "holds": ((5, LESS, (1, 1)), False),
    "held": ((5, ((1, 3), (1,)), LESS), ((3, 1),)),
    "straight": ((("not", LESS),), ("like", (("of", 0), ("of", 1)))),
    "zero_only": ((7, 1), (((1,), 1),)),
    "told_degree": ((5, ((1, 3), (1,)), ("not", LESS)), 1),
    "condition_polynomial": ((5, LISTS, LESS), (((0, 1), 4), ((1, 0), 1))),
    "tokens_of": (("a like 7;",), ("a", "like", "7", ";")),
    "is_question": ((QUESTION,), True),
    "question_tokens": ((QUESTION,), tuple("field 5 ; list a : 1 , 3 ; list b : 0 , 2 ; pick a unlike b ;".split())),
    "question_text": ((QUESTION,), TEXT),
    "read_question": ((TEXT,), QUESTION),
    "touched": ((F,), (0, 1)),
    "reach_along": ((3, LINKED, (1, 0, 2)), ((0, 2), (2,), ())),
    "width_along": ((3, LINKED, (1, 0, 2)), 2),
    "best_order": ((1, ()), (0,)),
    "least_width": ((3, LINKED), 1),
    "factor_along": ((5, 3, LINKED, (1, 0, 1), (0, 1, 2)), 4),
    "piece_sizes": ((5, 3, LINKED, (1, 0, 1), (0, 1, 2)), (1, 1, 1)),
    "pick_count": ((5, LINKED, ((1, 2),) * 3, (0, 1, 2)), 2),
    "some_pick": ((5, LINKED, ((1,), (1, 2), (1,)), (0, 1, 2)), (1, 2, 1)),
    "whole_condition": ((5, 2, (F, (((0, 0), 2),))), (((0, 1), 4), ((2, 0), 2))),
    "is_life": ((LIFE,), True),
    "begun": ((5, 2, (F,), LISTS), LIFE),
    "is_change": ((LIFE, ("strike", 0, 1)), True),
    "carried": ((LIFE, ("strike", 0, 3)), ("pick", (1, 0))),
    "changed": ((LIFE, ("strike", 0, 3)), (5, 2, (F,), ((1,), (0, 2)), ("pick", (1, 0)))),
    "lived": ((LIFE, [("less", 0), ("add", 1, 4)]), (5, 2, (), ((1, 3), (0, 2, 4)), ("pick", (1, 0)))),
    "diary": ((LIFE, [("less", 0), ("strike", 0, 1)]), (("pick", True), ("pick", False))),
    "sheet_holds": ((("decision", (5, F, LISTS), ("pick", (1, 0))),), True),
    "sheet": (("decision", (5, F, LISTS)), ("decision", (5, F, LISTS), ("pick", (1, 0)))),
    "wrong_sheets": (([("decision", (5, F, LISTS), ("pick", (1, 0))), None],), (1,)),
}

# Which of them tells truths within tuples.
TRUTHS = ("diary",)


class Interface(unittest.TestCase):
    def test_each_function_is_defined_in_its_file_with_these_arguments(self):
        for file, name, arguments in listed():
            module = importlib.import_module("listpicks." + file)
            function = getattr(module, name)
            self.assertEqual(function.__module__, "listpicks." + file)
            self.assertEqual(function.__name__, name)
            self.assertEqual(tuple(inspect.signature(function).parameters), arguments, name)

    def test_each_error_is_defined_in_its_file(self):
        module = importlib.import_module("listpicks.errors")
        for name in ERRORS:
            self.assertEqual(getattr(module, name).__module__, "listpicks.errors")

    def test_all_are_asked(self):
        self.assertEqual(sorted(ASKED), sorted(name for _, name, _ in listed()))

    def test_asked_by_place_and_by_name_and_again(self):
        for file, name, arguments in listed():
            function = getattr(importlib.import_module("listpicks." + file), name)
            passed, wanted = ASKED[name]
            before = copy.deepcopy(passed)
            by_place = function(*passed)
            self.assertEqual(by_place, wanted, name)
            self.assertEqual(function(**dict(zip(arguments, passed))), wanted, name)
            self.assertEqual(function(*copy.deepcopy(passed)), wanted, name)
            self.assertEqual(passed, before, name)
            self.assertIs(type(by_place), type(wanted), name)
            if not isinstance(wanted, bool) and name not in TRUTHS:
                self.assertTrue(only_tuples(by_place), name)

    def test_each_class_is_defined_in_its_file_with_these_methods(self):
        for name, (file, arguments, methods) in CLASSES.items():
            module = importlib.import_module("listpicks." + file)
            told = getattr(module, name)
            self.assertEqual((told.__module__, told.__name__), ("listpicks." + file, name))
            self.assertEqual(",".join(inspect.signature(told).parameters), arguments)
            for method, wanted in split(methods):
                self.assertIn(method, vars(told))
                self.assertEqual(tuple(inspect.signature(vars(told)[method]).parameters)[1:], wanted, method)
        self.assertIn("__len__", vars(importlib.import_module("listpicks.houses").House))

    def test_methods_asked_by_name(self):
        house = importlib.import_module("listpicks.houses").House(text=TEXT)
        house.do(change=("strike", 0, 1))
        self.assertEqual(house.within(work=len), 1)
        desk = importlib.import_module("listpicks.desk").Desk()
        self.assertEqual(vars(desk), {"house": None})
        self.assertEqual((desk.load(text=TEXT), desk.say(command="list a")), ("ok", "1 3"))


if __name__ == "__main__":
    unittest.main()
