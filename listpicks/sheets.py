"""Sheets: questions of some kinds with a value that answers them and can be looked at."""

from listpicks.covers import is_cover, least_cover
from listpicks.deciding import PAPER, decided, is_decision
from listpicks.errors import InvalidQuestion, Refused
from listpicks.fields import is_field
from listpicks.gamepapers import game_paper, is_game_paper
from listpicks.games import is_stand
from listpicks.joint import is_joint_paper, solved
from listpicks.kinds import is_number, is_sequence
from listpicks.lists import LONGEST_LIST, MOST_CHOICES, MOST_LISTS, are_lists, choice_count, is_choice
from listpicks.living import is_told_polynomial
from listpicks.packing import highest_power
from listpicks.surelists import is_sure, sure_powers
from listpicks.webcolours import is_length_paper, length_paper
from listpicks.webs import is_web
from listpicks.webways import is_within, way_within

DECISION = "decision"
JOINT = "joint"
SURE = "sure"
COVER = "cover"
WAY = "way"
LENGTHS = "lengths"
GAME = "game"

# How many things a question of each kind has.
SIZES = {"decision": 3, "joint": 4, "sure": 3, "cover": 3, "way": 2, "lengths": 2, "game": 2}

MOST_EQUATIONS = 12
GREATEST_JOINT_POWER = 28
GREATEST_OUT = 16


def _is_sheet_name(value):
    return isinstance(value, str) and value in SIZES


def _are_numbers(value, many, least, most):
    """Whether any value is a tuple of so many numbers from the least one to the greatest one."""
    if not isinstance(value, tuple) or len(value) != many:
        return False
    return all([is_number(number) and least <= number <= most for number in value])


def _is_joint_polynomial(p, n, value):
    return is_told_polynomial(p, n, value) and highest_power(value) <= GREATEST_JOINT_POWER


def _is_joint_question(p, equations, polynomial, lists):
    if p == 0 or not are_lists(p, lists) or choice_count(lists) > MOST_CHOICES:
        return False
    if not isinstance(equations, tuple) or len(equations) > MOST_EQUATIONS:
        return False
    return all([_is_joint_polynomial(p, len(lists), one) for one in equations + (polynomial,)])


def _is_field_question(name, question):
    """Whether a tuple of the right size is a question of a kind that begins with a field."""
    if not is_field(question[0]):
        return False
    if name == JOINT:
        return _is_joint_question(*question)
    p, one, other = question
    if name == DECISION:
        return are_lists(p, other) and is_told_polynomial(p, len(other), one)
    if name == COVER:
        return are_lists(p, one) and choice_count(one) <= MOST_CHOICES and is_choice(one, other)
    if not isinstance(other, tuple) or not 1 <= len(other) <= MOST_LISTS:
        return False
    return _are_numbers(other, len(other), 1, LONGEST_LIST) and is_told_polynomial(p, len(other), one)


def _is_web_question(name, web, numbers):
    if not is_web(web):
        return False
    if name == GAME:
        return is_stand(web, numbers)
    if name == WAY:
        return _are_numbers(numbers, web[0], 0, GREATEST_OUT)
    return _are_numbers(numbers, web[0], 1, LONGEST_LIST)


def _is_question(name, value):
    """Whether any value is a question of a kind."""
    if not isinstance(value, tuple) or len(value) != SIZES[name]:
        return False
    if name in (WAY, LENGTHS, GAME):
        return _is_web_question(name, *value)
    return _is_field_question(name, value)


def _is_answer(name, question, value):
    """Whether any value answers a question of a kind."""
    if name == DECISION:
        return is_decision(*question, value)
    if name == JOINT:
        return is_joint_paper(*question, value)
    if name == SURE:
        return is_sure(question[1], question[2], value)
    if name == COVER:
        return is_cover(*question, value)
    if name == WAY:
        return is_within(*question, value)
    if name == LENGTHS:
        return is_length_paper(*question, value)
    return is_game_paper(*question, value)


def _some_answer(name, question):
    """None, or some value that answers a question of a kind."""
    if name == DECISION:
        return decided(*question)
    if name == JOINT:
        word, evidence = solved(*question)
        return evidence if word == PAPER else None
    if name == SURE:
        return sure_powers(question[1], question[2])
    if name == COVER:
        return least_cover(*question)
    if name == WAY:
        return way_within(*question)
    if name == LENGTHS:
        return length_paper(*question)
    return game_paper(*question)


def sheet_holds(value):
    """Whether any value is a sheet that holds."""
    if not isinstance(value, tuple) or len(value) != 3:
        return False
    name, question, answer = value
    return _is_sheet_name(name) and _is_question(name, question) and _is_answer(name, question, answer)


def sheet(name, question):
    """A sheet of a kind that holds for a question."""
    if not _is_sheet_name(name):
        raise Refused(0)
    if not _is_question(name, question):
        raise Refused(1)
    answer = _some_answer(name, question)
    if answer is None:
        raise Refused(2)
    return name, question, answer


def wrong_sheets(values):
    """The indexes of those of a sequence that are no sheets that hold."""
    if not is_sequence(values):
        raise InvalidQuestion(0)
    return tuple([at for at, value in enumerate(values) if not sheet_holds(value)])
