"""Polynomials divided by the products of lists."""

from listpicks.polynomials import minus
from listpicks.reckoning import exchanged, highest
from listpicks.rests import quotient_table, rest_of, rest_table


def divided_by(p, polynomial, at, row):
    """The pair (quotient, rest) of a polynomial by the product of a list for one unknown."""
    most = highest(polynomial, at)
    quotient = exchanged(p, polynomial, at, quotient_table(p, row, most))
    rest = exchanged(p, polynomial, at, rest_table(p, row, most))
    return tuple(sorted(quotient)), tuple(sorted(rest))


def divided(p, polynomial, lists):
    """The pair (quotients, rest): what is left is divided by one list after another."""
    quotients = []
    rest = polynomial
    for at, row in enumerate(lists):
        quotient, rest = divided_by(p, rest, at, row)
        quotients.append(quotient)
    return tuple(quotients), rest


def least_form(p, polynomial, lists):
    """The only polynomial with powers below the lengths that has the same worths at all choices."""
    return rest_of(p, polynomial, lists)


def are_alike(p, one, other, lists):
    """Whether two polynomials have the same worths at all choices; none is gone through."""
    return rest_of(p, minus(p, one, other), lists) == ()
