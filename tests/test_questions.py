"""Points [63] and [64]: tokens, questions, and the fewest tokens of a question."""

import unittest

from draws import ODD_VALUES, Draws, only_tuples
from listpicks.questions import is_question, question_text, question_tokens, tokens_of
from listpicks.reading import read_question
from plain_conditions import A, B, ONE_IS, drawn_condition
from plain_texts import NAMES, WORDS, drawn_question, drawn_text, question_of

LESS, EQUAL = ("unlike", (A, B)), ("like", (A, B))


def deep_not(many, condition=LESS):
    for _ in range(many):
        condition = ("not", condition)
    return condition


def deep_sum(many, one=("minus", A)):
    """A sum in which so many brackets are needed."""
    for _ in range(many):
        one = ("minus", one)
    return one


def deep_some(many):
    condition = ("some", (LESS, EQUAL))
    for _ in range(many):
        condition = ("some", (LESS, condition))
    return condition


class Tokens(unittest.TestCase):
    def test_each_kind(self):
        for text, wanted in (("", ()), (" \n \n", ()), ("a", ("a",)), ("a b", ("a", "b")), ("a\nb", ("a", "b")),
                             ("a1_B2", ("a1_B2",)), ("12ab", ("12ab",)), ("1 2", ("1", "2")), ("a-b", ("a", "-", "b")),
                             ("--", ("-", "-")), (";;a:", (";", ";", "a", ":")), ("a\tb", ("a", "\t", "b")),
                             ("\r\n", ("\r",)), ("a\u00e9b", ("a", "\u00e9", "b")),
                             ("\u0663\u00b2", ("\u0663", "\u00b2")), ("a.b", ("a", ".", "b")),
                             ("x'\"\\", ("x", "'", '"', "\\")), ("\u00a0a", ("\u00a0", "a")),
                             ("[(a)]", ("[", "(", "a", ")", "]")), ("_", ("_",)), ("0007", ("0007",)),
                             ("@`{~/^", ("@", "`", "{", "~", "/", "^")), ("field5;", ("field5", ";")),
                             (" notlike not like", ("notlike", "not", "like"))):
            found = tokens_of(text)
            self.assertEqual(found, wanted)
            self.assertIs(type(found), tuple)

    def test_all_signs_of_runs(self):
        run = "abcdefghijklmnopqrstuvwxyzABCDEFGHIJKLMNOPQRSTUVWXYZ0123456789_"
        self.assertEqual(tokens_of(run), (run,))
        for sign in map(chr, range(256)):
            if sign not in run + " \n":
                self.assertEqual(tokens_of("a" + sign + "1"), ("a", sign, "1"))

    def test_drawn_texts(self):
        draws = Draws(431)
        for _ in range(100):
            tokens, _ = drawn_question(draws, draws.one_of((0, 5)))
            self.assertEqual(tokens_of(drawn_text(draws, tokens)), tuple(tokens))

    def test_long_texts(self):
        self.assertEqual(tokens_of("a" * 20000), ("a" * 20000,))
        self.assertEqual(tokens_of("a;" * 10000), ("a", ";") * 10000)


class WhatQuestionsAre(unittest.TestCase):
    def test_all_that_is_read(self):
        draws = Draws(432)
        for _ in range(200):
            tokens, question = drawn_question(draws, draws.one_of((0, 2, 5, 101)), draws.below(7))
            self.assertEqual(read_question(drawn_text(draws, tokens)), question)
            self.assertIs(is_question(question), True)

    def test_all_that_is_told_is_read_again(self):
        draws = Draws(433)
        seen = {True: 0, False: 0}
        for _ in range(300):
            n = draws.between(1, 10)
            p = draws.one_of((0, 3, 7))
            names = tuple(NAMES[at] for at in range(n))
            question = (p, names, draws.lists(p, draws.lengths(p, n, 12)), drawn_condition(draws, n, draws.below(6), 4))
            told = is_question(question)
            seen[told] += 1
            if told:
                self.assertEqual(read_question(question_text(question)), question)
            else:
                # More brackets are needed than may stand within one another.
                with self.assertRaises(ValueError):
                    read_question(question_text(question))
        self.assertGreater(min(seen.values()), 8)

    def test_near_ones(self):
        good = question_of(LESS)
        self.assertIs(is_question(good), True)
        for p, kept in ((0, True), (3, True), (101, True), (4, False), (1, False), (True, False), (103, False),
                        ("5", False), (5.0, False), (None, False), (2, False)):
            self.assertIs(is_question((p,) + good[1:]), kept, p)
        for names, kept in ((("b", "a"), True), (("_", "__"), True), (("a", "a"), False), (("a",), False),
                            (("a", "b", "c"), False), (["a", "b"], False), (("a", "1b"), False), (("a", ""), False),
                            (("a", "list"), False), (("a", "b c"), False), (("a", "\u00e9"), False),
                            (("a", "b-"), False), (("a", None), False), ("ab", False), (("a", b"b"), False),
                            (("a", "b\n"), False), (("a", "0"), False), ((), False)):
            self.assertIs(is_question((5, names) + good[2:]), kept, names)
        for word in WORDS:
            self.assertIs(is_question(question_of(LESS, names=("a", word))), False)
            self.assertIs(is_question(question_of(LESS, names=("a", word + "s"))), True)
            self.assertIs(is_question(question_of(LESS, names=("a", word.upper()))), True)
        for lists, kept in ((((4,), (0,)), True), (((5,), (0,)), False), (((1, 0), (0,)), False),
                            (((1, 1), (0,)), False), (((), (0,)), False), ([(1,), (0,)], False), (([1], (0,)), False),
                            (((1,),), False), (((True,), (0,)), False), (((1,), (0,), (0,)), False)):
            self.assertIs(is_question((5, ("a", "b"), lists, LESS)), kept, lists)
        for condition in (A, ("unlike", (A, ("of", 2))), ("unlike", (A,)), None, ("unlike", [A, B]), ("not", (LESS,))):
            self.assertIs(is_question(question_of(condition)), False, condition)
        for value in (list(good), good[:3], good + ((),), (good,), {"p": 5}):
            self.assertIs(is_question(value), False)

    def test_numbers_of_30_digits_and_of_31(self):
        for number, kept in ((10 ** 30 - 1, True), (10 ** 30, False), (1 - 10 ** 30, True), (-10 ** 30, False)):
            self.assertIs(is_question(question_of(LESS, 0, lists=((number,), (0,)))), kept)
            self.assertIs(is_question(question_of(LESS, 0, lists=((0,), (0,) + (number,) if number > 0 else (number,
                                                                                                             0)))),
                                                                                                             kept)
            if number > 0:
                self.assertIs(is_question(question_of(("like", (A, ("is", number))), 5)), kept)

    def test_how_deep_it_is(self):
        for deep, kept in ((5, True), (6, True), (7, False)):
            self.assertIs(is_question(question_of(deep_not(deep))), kept)
            self.assertIs(is_question(question_of(("like", (deep_sum(deep), B)))), kept)
            self.assertIs(is_question(question_of(deep_some(deep))), kept)
            self.assertIs(is_question(question_of(deep_not(2, ("some", (deep_not(deep - 3), LESS))))), kept)
            self.assertIs(is_question(question_of(deep_not(deep - 2, ("like", (A, deep_sum(2)))))), kept)
        # No brackets are needed here.
        self.assertIs(is_question(question_of(("some", (("all", (deep_not(6), LESS)), LESS)))), True)
        self.assertIs(is_question(question_of(deep_not(6, ("like", (("add", (("minus", ("times", (A, B))), A)), B))))),
                      True)
        # Of a minus within a product they are.
        self.assertIs(is_question(question_of(deep_not(6, ("like", (("times", (("minus", A), B)), B))))), False)
        self.assertIs(is_question(question_of(deep_not(6, ("like", (("add", (("add", (A, B)), B)), B))))), False)
        self.assertIs(is_question(question_of(deep_not(6, ("all", (LESS, LESS))))), False)

    def test_values_of_every_kind(self):
        for value in ODD_VALUES:
            self.assertIs(is_question(value), False, value)
            for at in range(4):
                good = question_of(LESS)
                if at or type(value) is not int or value not in (0, 7):
                    self.assertIs(is_question(good[:at] + (value,) + good[at + 1:]), False, (at, value))


class FewestTokens(unittest.TestCase):
    def test_each_form(self):
        for condition, text in (
                (LESS, "a unlike b"), (("like", (A, B, ONE_IS)), "a like b like 1"), (("not", LESS), "not a unlike b"),
                (("some", (LESS, EQUAL)), "a unlike b or a like b"), (("all", (LESS, EQUAL)),
                                                                      "a unlike b and a like b"),
                (("some", (("all", (LESS, EQUAL)), LESS)), "a unlike b and a like b or a unlike b"),
                (("all", (("some", (LESS, EQUAL)), LESS)), "[ a unlike b or a like b ] and a unlike b"),
                (("some", (("some", (LESS, EQUAL)), LESS)), "[ a unlike b or a like b ] or a unlike b"),
                (("all", (LESS, ("all", (LESS, EQUAL)))), "a unlike b and [ a unlike b and a like b ]"),
                (("not", ("some", (LESS, EQUAL))), "not [ a unlike b or a like b ]"),
                (("not", ("all", (LESS, EQUAL))), "not [ a unlike b and a like b ]"),
                (("all", (("not", LESS), EQUAL)), "not a unlike b and a like b"), (deep_not(2), "not not a unlike b"),
                (("like", (("minus", A), B)), "- a like b"), (("like", (("add", (A, B)), ONE_IS)), "a + b like 1"),
                (("like", (("add", (("minus", A), ("minus", B))), ONE_IS)), "- a - b like 1"),
                (("like", (("minus", ("minus", A)), B)), "- ( - a ) like b"),
                (("like", (("minus", ("add", (A, B))), B)), "- ( a + b ) like b"),
                (("like", (("minus", ("times", (A, B))), B)), "- a * b like b"),
                (("like", (("times", (("minus", A), B)), B)), "( - a ) * b like b"),
                (("like", (("times", (A, ("add", (A, B)))), B)), "a * ( a + b ) like b"),
                (("like", (("times", (("times", (A, B)), B)), B)), "( a * b ) * b like b"),
                (("like", (("add", (("add", (A, B)), B)), B)), "( a + b ) + b like b"),
                (("like", (("add", (A, ("minus", ("add", (A, B))))), B)), "a - ( a + b ) like b"),
                (("like", (("add", (("times", (A, B)), ("minus", ("times", (A, ONE_IS))))), B)),
                 "a * b - a * 1 like b")):
            tokens = ("field 5 ; list a : 0 , 1 ; list b : 2 ; pick " + text + " ;").split(" ")
            found = question_tokens(question_of(condition))
            self.assertEqual(found, tuple(tokens))
            self.assertIs(type(found), tuple)

    def test_elements_of_lists(self):
        question = question_of(LESS, 0, ("x", "list_"), ((-12, 0, 7), (-10 ** 29,)))
        wanted = "field 0 ; list x : - 12 , 0 , 7 ; list list_ : - {} ; pick".format(10 ** 29)
        self.assertEqual(question_tokens(question)[:20], tuple(wanted.split(" ")))

    def test_no_text_has_fewer(self):
        draws = Draws(434)
        more = 0
        for _ in range(250):
            tokens, question = drawn_question(draws, draws.one_of((0, 2, 11)), draws.below(7))
            found = question_tokens(question)
            self.assertTrue(only_tuples(found))
            self.assertLessEqual(len(found), len(tokens))
            more += len(found) < len(tokens)
            text = question_text(question)
            self.assertIs(type(text), str)
            self.assertEqual(tokens_of(text), found)
            self.assertEqual(read_question(text), question)
            self.assertEqual(read_question(" ".join(found)), question)
        self.assertGreater(more, 60)

    def test_large_questions(self):
        names = tuple("n" + str(at) for at in range(10))
        lists = (tuple(range(12)),) * 10
        sums = ("add", (("times", (("of", 9),) * 4 + (ONE_IS,) * 6),) * 10)
        condition = ("some", (("all", (("like", (sums,) * 5),) * 10),) * 2)
        question = (13, names, lists, condition)
        self.assertIs(is_question(question), True)
        found = question_tokens(question)
        self.assertEqual(len(found), 3 + 10 * (4 + 23) + 1 + 2 * 10 * 5 * 10 * 20)
        self.assertEqual(read_question(question_text(question)), question)


if __name__ == "__main__":
    unittest.main()
