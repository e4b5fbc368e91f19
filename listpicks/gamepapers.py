"""Papers by which the house wins the game, and answers behind which there is one again."""

from listpicks.answering import full_answers
from listpicks.games import after
from listpicks.kinds import is_number
from listpicks.webcores import linked_places, rest_ties
from listpicks.webterms import capped_terms, some_powers


def game_paper(web, stand):
    """None, or some game paper at a stand."""
    return some_powers(web, stand)


def _is_low(power, number):
    """Whether a power is less than the number of its place, 0 if this is done."""
    return power == 0 or power < number


def is_game_paper(web, stand, value):
    """Whether any value is a game paper at a stand."""
    if not isinstance(value, tuple) or len(value) != web[0] or not all([is_number(power) for power in value]):
        return False
    if not all([_is_low(power, number) for power, number in zip(value, stand)]):
        return False
    return value in capped_terms(rest_ties(web, stand), value)


def kept_answer(web, stand, offer):
    """None if a stand has no game paper, otherwise some answer behind which there is one."""
    if game_paper(web, stand) is None:
        return None
    for answer in full_answers(linked_places(web), stand, offer):
        if game_paper(web, after(stand, offer, answer)) is not None:
            return answer
    return None
