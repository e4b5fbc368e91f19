"""Points [63] and [64]: questions read from texts, and the first token with which no text goes on."""

import unittest
from itertools import product

from asking import assert_raised
from draws import ODD_VALUES, Draws, only_tuples
from listpicks.errors import InvalidText
from listpicks.questions import question_text, tokens_of
from listpicks.reading import read_question
from plain_conditions import A, B, ONE_IS
from plain_texts import WORDS, drawn_question, drawn_text, text_of

TOKENS_AHEAD = 16
LESS, EQUAL = ("unlike", (A, B)), ("like", (A, B))
SIGNS = ("a", "1", "like", "unlike", "and", "or", "not", "[", "]", "(", ")", "+", "-", "*", ";")

# The table of [63], what a condition is made of: each thing is some row of things and tokens.
GRAMMAR = {
    "condition": (("clause",), ("clause", "or", "condition")), "clause": (("step",), ("step", "and", "clause")),
    "step": (("not", "step"), ("[", "condition", "]"), ("sum", "alike"), ("sum", "apart")),
    "alike": (("like", "sum"), ("like", "sum", "alike")), "apart": (("unlike", "sum"), ("unlike", "sum", "apart")),
    "sum": (("signed",), ("signed", "more")),
    "more": (("+", "product"), ("-", "product"), ("+", "product", "more"), ("-", "product", "more")),
    "signed": (("product",), ("-", "product")), "product": (("factor",), ("factor", "*", "product")),
    "factor": (("1",), ("a",), ("(", "sum", ")")), "whole": (("condition", ";"),),
}


def beginnings(most):
    """The first tokens, up to most of them, of all texts made by the table, and whether more come."""
    found = {thing: set() for thing in GRAMMAR}
    grown = True
    while grown:
        grown = False
        for thing, rows in GRAMMAR.items():
            for row in rows:
                told = {((), False)}
                for part in row:
                    ends = found.get(part, {((part,), False)})
                    told = {one if one[1] else ((one[0] + end[0])[:most], end[1] or len(one[0] + end[0]) > most)
                            for one in told for end in ends}
                if not told <= found[thing]:
                    found[thing] |= told
                    grown = True
    return found["whole"]


class Read(unittest.TestCase):
    def test_drawn_texts(self):
        draws = Draws(441)
        for _ in range(300):
            tokens, question = drawn_question(draws, draws.one_of((0, 2, 3, 13, 101)), draws.below(7))
            found = read_question(drawn_text(draws, tokens))
            self.assertEqual(found, question)
            self.assertTrue(only_tuples(found))

    def test_fields_and_lists(self):
        for p in (0, 2, 3, 97, 101):
            self.assertEqual(read_question("field {};list a:1;pick a like 1;".format(p))[0], p)
        self.assertEqual(read_question("field 0;list a:5,-3,-0,5,0,-12;pick a like 1;")[2], ((-12, -3, 0, 5),))
        self.assertEqual(read_question("field 7;list a:6,0,6,0;list B_:3;pick a like B_;")[1:3],
                         (("a", "B_"), ((0, 6), (3,))))
        twelve = ",".join(["1"] * 12)
        self.assertEqual(read_question("field 2;list a:" + twelve + ";pick a like 1;")[2], ((1,),))
        long = "9" * 30
        self.assertEqual(read_question("field 0;list a:-" + long + "," + long + ";pick a like " + long + ";"),
                         (0, ("a",), ((1 - 10 ** 30, 10 ** 30 - 1),), ("like", (A, ("is", 10 ** 30 - 1)))))
        ten = "".join("list n{}:1;".format(at) for at in range(10))
        self.assertEqual(len(read_question("field 3;" + ten + "pick n0 like n9;")[1]), 10)

    def test_each_form(self):
        for text, wanted in (
                ("a unlike b", LESS), ("[a unlike b]", LESS), ("[[a unlike b]]", LESS), ("(a) unlike ((b))", LESS),
                ("not [a unlike b]", ("not", LESS)), ("not not a like b", ("not", ("not", EQUAL))),
                ("a like b and a unlike b or a like b", ("some", (("all", (EQUAL, LESS)), EQUAL))),
                ("a like b or a unlike b and a like b", ("some", (EQUAL, ("all", (LESS, EQUAL))))),
                ("not a like b and a unlike b", ("all", (("not", EQUAL), LESS))),
                ("[a like b or a unlike b] and a like b", ("all", (("some", (EQUAL, LESS)), EQUAL))),
                ("[a like b or a unlike b] or a like b", ("some", (("some", (EQUAL, LESS)), EQUAL))),
                ("a like b like 1", ("like", (A, B, ONE_IS))), ("-a like b", ("like", (("minus", A), B))),
                ("-a*b like 1", ("like", (("minus", ("times", (A, B))), ONE_IS))),
                ("a-b+1 like 1", ("like", (("add", (A, ("minus", B), ONE_IS)), ONE_IS))),
                ("-a-b like 1", ("like", (("add", (("minus", A), ("minus", B))), ONE_IS))),
                ("(a-b)-1 like 1", ("like", (("add", (("add", (A, ("minus", B))), ("minus", ONE_IS))), ONE_IS))),
                ("a-(b-1) like 1", ("like", (("add", (A, ("minus", ("add", (B, ("minus", ONE_IS)))))), ONE_IS))),
                ("a*(b*1)*(-a) like 1", ("like", (("times", (A, ("times", (B, ONE_IS)), ("minus", A))), ONE_IS))),
                ("12 unlike 0", ("unlike", (("is", 12), ("is", 0)))), ("a unlike 7", ("unlike", (A, ("is", 7))))):
            self.assertEqual(read_question(text_of(text))[3], wanted)

    def test_read_again_from_its_text(self):
        draws = Draws(442)
        for _ in range(150):
            _, question = drawn_question(draws, draws.one_of((0, 5)))
            self.assertEqual(read_question(question_text(question)), question)


class Wrong(unittest.TestCase):
    def assert_wrong(self, at, text):
        assert_raised(self, InvalidText, at, lambda: read_question(text))

    def assert_wrong_condition(self, at, condition):
        """at tokens of the condition, over two lists a and b, may stand."""
        self.assert_wrong(TOKENS_AHEAD + at, text_of(condition))

    def test_no_strings(self):
        for value in ODD_VALUES:
            if not isinstance(value, str):
                self.assert_wrong(0, value)
        for value in (b"field 2;list a:1;pick a like 1;", ["field"], ("field", "2")):
            self.assert_wrong(0, value)

    def test_beginnings(self):
        for text, at in (("", 0), (" \n", 0), ("fields", 0), ("Field 2", 0), ("list", 0), (";", 0), ("field", 1),
                         ("field;", 1), ("field -2;", 1), ("field 4;", 1), ("field 1;", 1), ("field 02;", 1),
                         ("field 00;", 1), ("field 103;", 1), ("field 1" + "0" * 30, 1), ("field a", 1),
                         ("field\u0662;", 1), ("field\u00b2;", 1), ("field 2", 2), ("field 2 list", 2), ("field 2,", 2),
                         ("field 2;", 3), ("field 2;pick", 3), ("field 2;field", 3), ("field 2;list", 4),
                         ("field 2;list 1a:", 4), ("field 2;list :", 4), ("field 2;list a", 5), ("field 2;list a;", 5),
                         ("field 2;list a:", 6), ("field 2;list a:;", 6), ("field 2;list a:2;", 6),
                         ("field 2;list a:-1;", 6), ("field 2;list a:a;", 6), ("field 2;list a:01;", 6),
                         ("field 2;list a:1", 7), ("field 2;list a:1 0", 7), ("field 2;list a:1,", 8),
                         ("field 2;list a:1,;", 8), ("field 2;list a:1,2", 8), ("field 2;list a:1;", 8),
                         ("field 2;list a:1;;", 8), ("field 2;list a:1;list", 9), ("field 2;list a:1;list a", 9),
                         ("field 2;list a:1;list b:1;list a:", 14), ("field 2;list a:1;pick", 9),
                         ("field 2;list a:1;pick;", 9), ("field 2;list a:1;pick list", 9), ("field 2\t;", 2),
                         ("field 2;@", 3)):
            self.assert_wrong(at, text)
            if at:
                # What may stand is also all that may stand if the text ends there.
                self.assert_wrong(at, " ".join(tokens_of(text)[:at]))

    def test_words_are_no_names(self):
        for word in WORDS:
            self.assert_wrong(4, "field 2;list " + word + ":1;pick 1 like 1;")
            self.assertEqual(read_question("field 2;list " + word + "_:1;pick 1 like 1;")[1], (word + "_",))

    def test_elements_of_the_field_0(self):
        for text, at in (("--1", 7), ("-", 7), ("-;", 7), ("-a", 7), ("-01", 7), ("- 1" + "0" * 30, 7),
                         ("1" + "0" * 30, 6), ("+1", 6), ("1,-", 9), ("1-", 7), ("-1 1", 8), ("-00", 7)):
            self.assert_wrong(at, "field 0;list a:" + text)

    def test_ten_and_eleven_lists(self):
        ten = "field 3;" + "".join("list n{}:1;".format(at) for at in range(10))
        self.assert_wrong(3 + 50, ten + "list n10:1;pick n0 like n1;")
        self.assert_wrong(3 + 50, ten)
        self.assert_wrong(3 + 45 + 1, ten[:-len("list n9:1;")] + "list n0:1;")

    def test_twelve_and_thirteen_elements(self):
        self.assert_wrong(6 + 23, "field 2;list a:" + ",".join("1" * 13) + ";pick a like 1;")
        self.assert_wrong(6 + 22, "field 2;list a:" + ",".join("1" * 11) + ",2;")
        self.assert_wrong(6 + 23, "field 2;list a:" + ",".join("1" * 12))

    def test_tokens_that_may_not_follow(self):
        for condition, at in (("", 0), ("a", 1), ("a b", 1), ("a like", 2), ("a like like b", 2), ("c like a", 0),
                              ("a like c", 2), ("a and b", 1), ("a + like b", 2), ("a * like b", 2), ("+ a like b", 0),
                              ("a + - b like a", 2), ("- - a like b", 1), ("a * - b like a", 2),
                              ("a like b unlike a", 3), ("a unlike b like a", 3), ("a like b and", 4),
                              ("a like b or or", 4), ("a like b not", 3), ("a like b [", 3), ("not", 1), ("not not", 2),
                              ("not ;", 1), ("not and", 1), ("[", 1), ("[ a like b", 4), ("[ a like b )", 4),
                              ("[ ]", 1), ("[ a ]", 2), ("( a", 2), ("( a like b ) ", 2), ("( a ]", 2),
                              ("( ) like a", 1), ("( a ) b", 3), ("a ( b )", 1), ("( a )", 3),
                              ("[ a like b ] like a", 5), ("[ a like b ] + 1", 5), ("not ( a ) like b )", 6),
                              ("a like b ]", 3), ("a like b )", 3), ("a like 01", 2), ("a like 1" + "0" * 30, 2),
                              ("a like 1a", 2), ("a like b, a", 3), ("a = b", 1), ("a like -", 3),
                              ("a like b or list", 4), ("a like field", 2), ("a like \u0661", 2), ("a like b \t", 3),
                              ("A like b", 0), ("a like b.5", 3), ("a like not b", 2)):
            self.assert_wrong_condition(at, condition)

    def test_behind_the_end(self):
        for text, at in ((text_of("a like b") + ";", 20), (text_of("a like b") + " a", 20),
                         (text_of("a like b") + "\t", 20), (text_of("a like b")[:-1], 19),
                         (text_of("a like b") * 2, 20)):
            self.assert_wrong(at, text)

    def test_ten_and_eleven_side_by_side(self):
        for sign, one, tail, size in (("or", "a like b", "", 4), ("and", "a like b", "", 4), ("+", "a", " like b", 2),
                                      ("-", "a", " like b", 2), ("*", "1", " like b", 2)):
            for more, ahead, behind in (("", "", ""), ("[", "[", "]"), ("(", "(", ") like b")):
                if more == "(" and size == 4 or more == "[" and size == 2:
                    continue
                whole = ahead + (" " + sign + " ").join([one] * 10) + (behind if ahead else tail)
                self.assertIsNotNone(read_question(text_of(whole)))
                whole = ahead + (" " + sign + " ").join([one] * 11) + (behind if ahead else tail)
                self.assert_wrong_condition(len(ahead) + 10 * size - 1, whole)
        # The minus ahead is none of the ten.
        self.assertEqual(len(read_question(text_of("-" + "+".join("a" * 10) + " like b"))[3][1][0][1]), 10)
        self.assert_wrong_condition(20, "-" + "+".join("a" * 11) + " like b")
        # Beside each other they are counted anew.
        five = " and ".join(["a like b"] * 10)
        self.assertEqual(len(read_question(text_of(five + " or " + five))[3][1]), 2)

    def test_five_and_six_sums(self):
        for word in ("like", "unlike"):
            self.assertEqual(len(read_question(text_of((" " + word + " ").join("ababa")))[3][1]), 5)
            self.assert_wrong_condition(9, (" " + word + " ").join("ababab"))

    def test_six_and_seven_deep(self):
        for six, seven, at in (("not " * 6 + "a like b", "not " * 7 + "a like b", 6),
                               ("[" * 6 + "a like b" + "]" * 6, "[" * 7 + "a like b" + "]" * 7, 6),
                               ("(" * 6 + "a" + ")" * 6 + " like b", "(" * 7 + "a" + ")" * 7 + " like b", 6),
                               ("not [ not [ ( ( a ) ) like b ] ]", "not [ not [ ( ( ( a ) ) ) like b ] ]", 6),
                               ("[ a like b or not not not [ [ a like b ] ] ]",
                                "[ a like b or not not not [ [ not a like b ] ] ]", 10),
                               ("a + 2 * ( 1 - ( ( ( ( ( a ) ) ) ) ) ) like b",
                                "a + 2 * ( 1 - ( ( ( ( ( ( a ) ) ) ) ) ) ) like b", 12)):
            self.assertIsNotNone(read_question(text_of(six)))
            self.assert_wrong_condition(at, seven)
        # Within one another, not one after another.
        for beside in ("[[[a like b]]] and not not not [a like b] and ((a)) + ((b)) like (((((a)))))",
                       "not not not not not not a like b and not not not not not not a like b"):
            self.assertIsNotNone(read_question(text_of(beside)))
        self.assert_wrong_condition(6, "not not not not not not ( a ) like b")
        self.assert_wrong_condition(8, "not not not not not not a like ( b )")
        self.assert_wrong_condition(6, "( ( ( ( ( ( [ a like b")

    def test_form_degrees_of_4_and_of_5(self):
        for four, five, at in (("a*b*a*b like 1", "a*b*a*b*a like 1", 8), ("1*a*2*b*a*b*3 like 1",
                                                                           "1*a*2*b*a*b*3*b like 1", 14),
                               ("a*(b+a*a*1)*b like 1", "a*(b+a*a*1)*b*b like 1", 14),
                               ("a*(b*(a+b*b)) like 1", "a*(b*(a+b*b*a)) like 1", 12),
                               ("(a+b)*(a+1)*(b+2)*(a-b) like 1", "(a+b)*(a+1)*(b+2)*(a-b)*(1+a) like 1", 27),
                               ("(a*a+1)*(1+b*b) like 1", "(a*a+1)*(1+b*b)*a like 1", 16),
                               ("(a*a*a)*(1+b) like 1", "(a*a*a)*(1+b*b) like 1", 13),
                               ("-(-a*a)*a*b like b", "-(-a*a)*a*b*b like b", 12), ("b like 1+a*a*a*a",
                                                                                    "b like 1+a*a*a*a*a", 12)):
            self.assertIsNotNone(read_question(text_of(four)))
            self.assert_wrong_condition(at, five)
        # A number may always follow, and each sum has its own degree.
        self.assertIsNotNone(read_question(text_of("a*a*a*a*1*1*(1+1) like a*a*a*a + b*b*b*b")))
        self.assert_wrong_condition(11, "a*a*a*a*(1+a) like 1")

    def test_all_short_conditions(self):
        # Over one list; 9 tokens stand ahead.
        most = 4
        wanted = {one for one, _ in beginnings(most)}
        told = {one[:many] for one in wanted for many in range(most + 1)}
        whole = {one for one, more in beginnings(most) if not more}
        ahead = ["field", "2", ";", "list", "a", ":", "1", ";", "pick"]
        seen = {True: 0, False: 0}
        for tokens in product(SIGNS, repeat=most):
            text = " ".join(ahead + list(tokens))
            at = max(many for many in range(most + 1) if tokens[:many] in told)
            seen[tokens in whole] += 1
            if tokens in whole:
                self.assertEqual(read_question(text)[1], ("a",))
            else:
                self.assert_wrong(len(ahead) + at, text)
        self.assertEqual(seen[True], 8)

    def test_drawn_faults(self):
        draws = Draws(443)
        for _ in range(400):
            tokens, _ = drawn_question(draws, draws.one_of((0, 3)), draws.below(4))
            at = draws.below(len(tokens))
            spoilt = list(tokens)
            kind = draws.below(3)
            if kind == 0:
                del spoilt[at]
            elif kind == 1:
                spoilt[at] = draws.one_of(tokens)
            else:
                spoilt.insert(at, draws.one_of(tokens + list(SIGNS)))
            try:
                question = read_question(" ".join(spoilt))
            except InvalidText as error:
                # What stands ahead of the fault may stand, and all that may stand does if the text ends behind it.
                self.assertGreaterEqual(error.at, at)
                self.assert_wrong(error.at, " ".join(spoilt[:error.at]))
                self.assert_wrong(error.at,
                                  " ".join(spoilt[:error.at + 1]) if error.at < len(spoilt) else " ".join(spoilt))
                self.assertEqual(self.ended(spoilt[:error.at])[:error.at], spoilt[:error.at])
            else:
                self.assertEqual(read_question(question_text(question)), question)

    def ended(self, tokens):
        """Some text that is read and begins with these tokens."""
        found = list(tokens)
        for _ in range(60):
            try:
                read_question(" ".join(found))
                return found
            except InvalidText as error:
                self.assertEqual(error.at, len(found))
            for sign in self.ends(found):
                try:
                    read_question(" ".join(found + [sign]))
                except InvalidText as error:
                    if error.at == len(found):
                        continue
                found.append(sign)
                break
        raise AssertionError(found)

    def ends(self, found):
        """Tokens that may bring an end, those first that bring it soonest."""
        if "pick" not in found:
            return (":" if found[-1:] == ["zz"] else ";", "zz", "field", "2", ":", ";", "1", "pick", "list")
        both = "like" in found[len(found) - found[::-1].index("pick"):]
        return (")", ";", "]", "like", "1") if both or found[-1] != "1" else (")", "like", "unlike", "]", ";")


if __name__ == "__main__":
    unittest.main()
