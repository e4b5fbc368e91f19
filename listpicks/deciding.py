"""A choice at which a polynomial isn't 0, or a paper by which it is 0 at all of them."""

from listpicks.division import least_form
from listpicks.kinds import is_pair
from listpicks.lists import is_choice, pick_of_form
from listpicks.polynomials import worth
from listpicks.vanishing import is_vanishing_paper, vanishing_paper

PICK = "pick"
PAPER = "paper"


def decided(p, polynomial, lists):
    """The pair ("pick", choice) or ("paper", paper) for a polynomial; no choices are gone through."""
    form = least_form(p, polynomial, lists)
    if form == ():
        return PAPER, vanishing_paper(p, polynomial, lists)
    return PICK, pick_of_form(p, form, lists)


def is_decision(p, polynomial, lists, value):
    """Whether any value is such a pair for the polynomial and the lists."""
    if not is_pair(value) or not isinstance(value[0], str):
        return False
    word, evidence = value
    if word == PICK:
        return is_choice(lists, evidence) and worth(p, polynomial, evidence) != 0
    return word == PAPER and is_vanishing_paper(p, polynomial, lists, evidence)
