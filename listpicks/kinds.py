"""What any value must be to count as an integer, a number, a sequence or an element."""

# The least number of more than 30 digits.
LEAST_LONG = 1000000000000000000000000000000


def is_integer(value):
    """Whether any value is an int that is not a bool."""
    return isinstance(value, int) and not isinstance(value, bool)


def is_number(value):
    """Whether any value is an integer from 0 on."""
    return is_integer(value) and value >= 0


def is_sequence(value):
    """Whether any value is a list or a tuple."""
    return isinstance(value, (list, tuple))


def is_pair(value):
    """Whether any value is a tuple of two things."""
    return isinstance(value, tuple) and len(value) == 2


def is_element(p, value):
    """Whether any value is an element of the field p."""
    return is_integer(value) and (p == 0 or 0 <= value < p)


def are_elements(p, many, value):
    """Whether any value is a tuple of so many elements of the field p."""
    return isinstance(value, tuple) and len(value) == many and all([is_element(p, one) for one in value])


def is_ascending(values):
    """Whether each of some things that can be compared is less than the next one."""
    return all([one < other for one, other in zip(values, values[1:])])


def is_lot(many, value):
    """Whether any value is an ascending tuple of numbers below many, perhaps empty."""
    if not isinstance(value, tuple) or not all([is_number(one) and one < many for one in value]):
        return False
    return is_ascending(value)


def is_short(value):
    """Whether any value is an integer with at most 30 digits."""
    return is_integer(value) and -LEAST_LONG < value < LEAST_LONG
