"""Lists, the choices from them, and those choices at which a polynomial isn't 0."""

from listpicks.errors import InvalidLists, Refused
from listpicks.gridmaps import all_worths
from listpicks.kinds import is_ascending, is_element, is_sequence
from listpicks.polynomials import put_in
from listpicks.reckoning import gathered, only_at, product_of
from listpicks.rests import product_factors, quick_rest

MOST_LISTS = 10
LONGEST_LIST = 12
MOST_CHOICES = 20000


def _is_row(p, value):
    """Whether any value is a sequence of one to twelve elements, in any order."""
    if not is_sequence(value) or not 1 <= len(value) <= LONGEST_LIST:
        return False
    return all([is_element(p, one) for one in value])


def are_lists(p, value):
    """Whether any value is a tuple of 1 to 10 lists."""
    if not isinstance(value, tuple) or not 1 <= len(value) <= MOST_LISTS:
        return False
    return all([isinstance(row, tuple) and _is_row(p, row) and is_ascending(row) for row in value])


def lists_of(p, rows):
    """The lists with the elements of some rows."""
    if not is_sequence(rows) or not 1 <= len(rows) <= MOST_LISTS:
        raise InvalidLists(0)
    for at, row in enumerate(rows):
        if not _is_row(p, row):
            raise InvalidLists(at)
    return tuple([tuple(sorted(set(row))) for row in rows])


def is_choice(lists, value):
    """Whether any value is a tuple with an element of each of the lists."""
    if not isinstance(value, tuple) or len(value) != len(lists):
        return False
    return all([is_element(0, one) and one in row for one, row in zip(value, lists)])


def choice_count(lists):
    """How many choices there are."""
    return product_of([len(row) for row in lists])


def check_count(lists):
    """Refuse lists with more choices than are gone through."""
    count = choice_count(lists)
    if count > MOST_CHOICES:
        raise Refused(count)


def all_tuples(rows):
    """All tuples with a thing of each row, in the order of the rows."""
    found = [()]
    for row in rows:
        found = [ahead + (one,) for ahead in found for one in row]
    return tuple(found)


def choices(lists):
    """All choices, ascending."""
    check_count(lists)
    return all_tuples(lists)


def list_product(p, n, at, row):
    """The polynomial that is the product of (unknown at less the element) over a list."""
    factors = product_factors(p, row)
    return gathered(p, {only_at(n, at, power): factor for power, factor in enumerate(factors)})


def picks(p, polynomial, lists):
    """All choices at which a polynomial isn't 0."""
    rows = choices(lists)
    return tuple([choice for choice, one in zip(rows, all_worths(p, polynomial, lists)) if one != 0])


def first_pick(p, polynomial, lists):
    """None, or the first choice at which a polynomial isn't 0."""
    check_count(lists)
    return pick_of_form(p, quick_rest(p, polynomial, lists), lists)


def pick_of_form(p, form, lists):
    """None if a least form is 0, otherwise the first choice at which it isn't; no choices are gone through."""
    if form == ():
        return None
    choice = []
    for at, row in enumerate(lists):
        one, form = _first_kept(p, form, at, row)
        choice.append(one)
    return tuple(choice)


def _first_kept(p, form, at, row):
    """The first element of a list that, put in, leaves a least form that isn't 0, and what it leaves."""
    for one in row:
        left = put_in(p, form, at, one)
        if left != ():
            return one, left
    return None
