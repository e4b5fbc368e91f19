"""The interface: where things are defined, by which names arguments are passed, and that arguments stay."""

import copy
import importlib
import inspect
import unittest

from draws import only_tuples
from interface import ERRORS, listed

F = (((0, 1), 2), ((2, 0), 1))
LISTS = ((1, 3), (0, 2))
RING = (4, ((0, 1), (0, 3), (1, 2), (2, 3)))
PATH = (3, ((0, 1), (1, 2)))

# For each function arguments by which it can be asked, and what it tells then.
ASKED = {
    "is_field": ((7,), True),
    "element": ((7, -1), 6),
    "inverse": ((7, 3), 5),
    "is_polynomial": ((5, 2, F), True),
    "polynomial_of": ((5, 2, [([2, 0], 1), ((0, 1), 7)]), F),
    "degree": ((F,), 2),
    "factor_of": ((F, (0, 1)), 2),
    "plus": ((5, F, (((0, 1), 3),)), (((2, 0), 1),)),
    "times": ((5, F, (((0, 1), 3),)), (((0, 2), 1), ((2, 1), 3))),
    "scaled": ((5, F, 3), (((0, 1), 1), ((2, 0), 3))),
    "constant": ((5, 2, 3), (((0, 0), 3),)),
    "unknown": ((5, 2, 1), (((0, 1), 1),)),
    "worth": ((5, F, (3, 2)), 3),
    "put_in": ((5, F, 0, 3), (((0, 0), 4), ((0, 1), 2))),
    "are_lists": ((5, LISTS), True),
    "lists_of": ((5, [[3, 1], [0, 2, 0]]), LISTS),
    "choice_count": ((LISTS,), 4),
    "choices": ((LISTS,), ((1, 0), (1, 2), (3, 0), (3, 2))),
    "list_product": ((5, 2, 0, (1, 3)), (((0, 0), 3), ((1, 0), 1), ((2, 0), 1))),
    "picks": ((5, F, LISTS), ((1, 0), (3, 0), (3, 2))),
    "first_pick": ((5, F, LISTS), (1, 0)),
    "divided_by": ((5, F, 0, (1, 3)), ((((0, 0), 1),), (((0, 0), 2), ((0, 1), 2), ((1, 0), 4)))),
    "divided": ((5, F, LISTS), (((((0, 0), 1),), ()), (((0, 0), 2), ((0, 1), 2), ((1, 0), 4)))),
    "least_form": ((5, F, LISTS), (((0, 0), 2), ((0, 1), 2), ((1, 0), 4))),
    "are_alike": ((5, F, (((0, 0), 2), ((0, 1), 2), ((1, 0), 4)), LISTS), True),
    "table_of": ((5, F, LISTS), (1, 0, 4, 3)),
    "form_of": ((5, LISTS, (1, 0, 4, 3)), (((0, 0), 2), ((0, 1), 2), ((1, 0), 4))),
    "mark_of": ((5, LISTS, (1, 0)), (((0, 0), 1), ((0, 1), 2), ((1, 0), 3), ((1, 1), 1))),
    "paper_sum": ((5, LISTS, ((((0, 0), 1),), ())), (((0, 0), 3), ((1, 0), 1), ((2, 0), 1))),
    "is_vanishing_paper": ((5, (((0, 0), 3), ((1, 0), 1), ((2, 0), 1)), LISTS, ((((0, 0), 1),), ())), True),
    "vanishing_paper": ((5, (((0, 0), 3), ((1, 0), 1), ((2, 0), 1)), LISTS), ((((0, 0), 1),), ())),
    "decided": ((5, (((0, 0), 3), ((1, 0), 1), ((2, 0), 1)), LISTS), ("paper", ((((0, 0), 1),), ()))),
    "is_decision": ((5, F, LISTS, ("pick", (1, 0))), True),
    "joint_sum": ((5, (F,), LISTS, (((((0, 0), 2),),), ((((0, 0), 1),), ()))),
                  (((0, 0), 3), ((0, 1), 4), ((1, 0), 1), ((2, 0), 3))),
    "is_joint_paper": ((5, (F,), F, LISTS, (((((0, 0), 1),),), ((), ()))), True),
    "solved": ((5, (F,), (((0, 0), 2),), LISTS), ("pick", (1, 2))),
    "weighted_sum": ((5, F, ((1, 3), (0,))), 4),
    "differences": ((5, LISTS, (1, 0)), 4),
    "top_factor": ((5, F, ((1, 3), (0,))), 4),
    "sure_powers": ((F, (3, 1)), (2, 0)),
    "is_sure": ((F, (3, 1), (2, 0)), True),
    "shortened": ((LISTS, (0, 1)), ((1,), (0, 2))),
    "led": ((5, F, ((1, 3), (0,))), ((1, 1), (0, 1))),
    "sure_choice": ((5, F, ((1, 2, 4), (3,)), (2, 0)), (1, 3)),
    "least_shape": (((3, 2, 4), 2), (2, 1, 4)),
    "least_picks": (((3, 2, 4), 2), 8),
    "fewest_condition": ((5, ((0, 1), (1, 2, 4)), 2), (((1, 0), 4), ((1, 1), 1))),
    "code_powers": (((2, 3), 1), ((0, 0), (0, 1), (1, 0))),
    "check_sums": ((3, ((0, 1), (0, 1, 2)), 1, (0, 1, 2, 1, 2, 0)), (0, 0, 0)),
    "is_code_table": ((3, ((0, 1), (0, 1, 2)), 1, (0, 1, 2, 1, 2, 0)), True),
    "is_enough": ((3, ((0, 1), (0, 1, 2)), 1, (0, 5)), True),
    "filled": ((3, ((0, 1), (0, 1, 2)), 1, (None, 1, 2, 1, 2, None)), (0, 1, 2, 1, 2, 0)),
    "vote_boxes": ((((0, 1, 3), (2, 4)), (1, 0)), (((0, 1), (2,)), ((0, 1), (4,)))),
    "votes": ((2, ((0, 1),) * 3, (1, 0, 1, 0, 0, 0, 0, 1), (1, 0, 0)), (1, 0, 1, 1)),
    "sure_mends": (((2, 2, 2), 1), 1),
    "mended": ((2, ((0, 1),) * 2, 0, (1, 0, 1, 1)), (((0, 0), 1),)),
    "is_plane": ((5, 2, ((1, 2), 3)), True),
    "plane_holds": ((5, ((1, 2), 0), (3, 1)), True),
    "plane_polynomial": ((5, ((1, 2), 3)), (((0, 0), 2), ((0, 1), 2), ((1, 0), 1))),
    "left_over": ((5, LISTS, (((1, 0), 1), ((1, 1), 0))), ((3, 0),)),
    "is_cover": ((5, LISTS, (3, 0), (((1, 0), 1), ((1, 1), 0))), True),
    "least_cover": ((5, LISTS, (3, 0)), (((0, 1), 2), ((1, 0), 1))),
    "other_left": ((5, LISTS, (3, 0), (((1, 0), 1),)), (3, 2)),
    "fewest_planes": (((3, 4), 3), 3),
    "cover_leaving": ((5, LISTS, 1), (((1, 0), 1),)),
    "whole_cover": ((5, LISTS), (((1, 0), 1), ((1, 0), 3))),
    "missed_plane": ((3, 2, ((0, 0), (0, 1), (1, 0), (2, 2))), ((1, 1), 2)),
    "is_meeting": ((2, 2, ((0, 0), (0, 1), (1, 0))), True),
    "least_meeting": ((2, 2), ((0, 0), (0, 1), (1, 0))),
    "sums": ((5, LISTS), (0, 1, 3)),
    "sum_choice": ((5, LISTS, 0), (3, 2)),
    "fewest_sums": ((5, (2, 2)), 3),
    "least_sum_lists": (((2, 3),), ((0, 1), (0, 1, 2))),
    "sum_outside": ((5, LISTS, (1, 3)), (3, 2)),
    "unlike_sums": ((5, ((0, 1), (0, 1))), (1,)),
    "unlike_choice": ((5, LISTS, 0), (3, 2)),
    "unlike_lengths": (((3, 1, 3),), (2, 1, 3)),
    "fewest_unlike": ((7, (4, 4, 4)), 4),
    "sums_factor": ((7, (3, 2)), 3),
    "unlike_factor": ((11, (1, 3)), 1),
    "common_zeros": ((5, (F,), LISTS), ((1, 2),)),
    "load": ((5, (F, ())), 8),
    "weight_sum": ((5, (F,), LISTS), 1),
    "second_zero": ((5, (), ((1,), (0, 2)), (1, 0)), (1, 2)),
    "fewest_zeros": ((3, ((((1, 0, 0), 1),),), ((0, 1, 2),) * 3), 9),
    "all_lists": ((3, 2), ((0, 1, 2), (0, 1, 2))),
    "total_worth": ((3, 2, (((2, 2), 1), ((2, 4), 1))), 2),
    "zero_unknowns": ((5, 2, 1), ((((1, 0), 1),),)),
    "adds_up": (((3, 3), ((1, 2), (2, 2)), (0, 1)), (0, 1)),
    "is_zero_lot": (((3,), ((1,), (2,)), (0, 1)), True),
    "zero_count": (((3,), ((1,), (2,))), 2),
    "sign_count": (((3,), ((1,), (2,))), 2),
    "zero_lot": (((3,), ((1,), (2,))), (0, 1)),
    "enough": (((2, 4),), 5),
    "lacking_marks": (((2, 3),), ((1, 0), (0, 1), (0, 1))),
    "fewest_lots": (((2, 4), 7), 8),
    "lot_condition": (((3,), ((1,), (2,))), (((0, 0), 1), ((0, 1), 2), ((1, 0), 2), ((1, 1), 2))),
    "share_lot": ((2, (5, 2, 7)), (0, 2)),
    "lacking_numbers": ((3,), (0, 0, 1, 1)),
    "is_web": ((RING,), True),
    "web_polynomial": ((3, (2, ((0, 1),))), (((0, 1), 2), ((1, 0), 1))),
    "is_colouring": ((PATH, ((1,), (1, 2), (1,)), (1, 2, 1)), True),
    "colouring": ((PATH, ((1,), (1, 2), (1,))), (1, 2, 1)),
    "is_way": ((PATH, (0, 1)), True),
    "outs": ((RING, (0, 1, 0, 0)), (1, 1, 1, 1)),
    "ways_with": ((RING, (1, 1, 1, 1)), ((0, 1, 0, 0), (1, 0, 1, 1))),
    "way_within": ((RING, (1, 1, 0, 1)), ("lot", (0, 1, 2, 3))),
    "is_within": ((PATH, (1, 1, 0), ("way", (0, 0))), True),
    "round_lots": ((RING, (0, 1, 0, 0)), ((), (0, 1, 2, 3))),
    "round_counts": ((RING, (0, 1, 0, 0)), (2, 0)),
    "length_paper": ((PATH, (2, 2, 1)), (0, 0)),
    "is_length_paper": ((PATH, (2, 2, 1), (0, 0)), True),
    "even_length": ((RING,), 2),
    "two_sides": (((3, ((0, 1), (0, 2), (1, 2))),), None),
    "thickest": ((RING,), 1),
    "is_stand": ((PATH, (0, 12, 1)), True),
    "is_offer": (((0, 2, 1), (1, 2)), True),
    "is_answer": ((RING, (2, 1, 2, 2), (0, 1), (1,)), True),
    "after": (((2, 1, 2, 2), (0, 1), (1,)), (1, 0, 2, 2)),
    "house_wins": ((RING, (2, 2, 2, 2)), True),
    "losing_offer": (((3, ((0, 1), (0, 2), (1, 2))), (2, 2, 2)), (0, 1, 2)),
    "game_paper": ((RING, (2, 2, 2, 2)), (1, 1, 1, 1)),
    "is_game_paper": ((RING, (2, 2, 2, 2), (1, 1, 1, 1)), True),
    "kept_answer": (((2, ((0, 1),)), (1, 2), (0, 1)), (0,)),
}


class Interface(unittest.TestCase):
    def test_each_function_is_defined_in_its_file_with_these_arguments(self):
        for file, name, arguments in listed():
            module = importlib.import_module("listpicks." + file)
            function = getattr(module, name)
            self.assertEqual(function.__module__, "listpicks." + file)
            self.assertEqual(function.__name__, name)
            self.assertEqual(tuple(inspect.signature(function).parameters), arguments, name)

    def test_each_error_is_defined_in_its_file(self):
        module = importlib.import_module("listpicks.errors")
        for name in ERRORS:
            self.assertEqual(getattr(module, name).__module__, "listpicks.errors")

    def test_all_are_asked(self):
        self.assertEqual(sorted(ASKED), sorted(name for _, name, _ in listed()))

    def test_asked_by_place_and_by_name_and_again(self):
        for file, name, arguments in listed():
            function = getattr(importlib.import_module("listpicks." + file), name)
            passed, wanted = ASKED[name]
            before = copy.deepcopy(passed)
            by_place = function(*passed)
            self.assertEqual(by_place, wanted, name)
            self.assertEqual(function(**dict(zip(arguments, passed))), wanted, name)
            self.assertEqual(function(*copy.deepcopy(passed)), wanted, name)
            self.assertEqual(passed, before, name)
            self.assertIs(type(by_place), type(wanted), name)
            if not isinstance(wanted, bool):
                self.assertTrue(only_tuples(by_place), name)


if __name__ == "__main__":
    unittest.main()
