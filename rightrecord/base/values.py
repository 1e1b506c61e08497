"""Names, variables, integers, values, and tuples of them."""

MAX_NAME = 8
MAX_VARIABLE = 4
MAX_NUMBER = 1000000000


def is_name(value):
    """Return whether the value is a name."""
    return _is_word(value, MAX_NAME, "a", "z")


def is_variable(value):
    """Return whether the value is a variable."""
    return _is_word(value, MAX_VARIABLE, "A", "Z")


def _is_word(value, longest, first, last):
    if type(value) is not str or not 1 <= len(value) <= longest:
        return False
    return all([first <= letter <= last for letter in value])


def value_kind(value):
    """Return the kind of a value, or None for what is no value."""
    if is_name(value):
        return "name"
    if type(value) is int and -MAX_NUMBER <= value <= MAX_NUMBER:
        return "number"
    return None


def is_integer_below(value, limit):
    """Return whether the value is an integer from 0 to the limit minus 1."""
    return type(value) is int and 0 <= value < limit


def is_tuple(value, least, most):
    """Return whether the value is a tuple with so many items."""
    return type(value) is tuple and least <= len(value) <= most


def is_ascending(items):
    """Return whether the items, which can be compared, are strictly ascending."""
    return all([low < high for low, high in zip(items, items[1:])])


def has_kinds(value, kinds):
    """Return whether the value is a tuple of values of these kinds, in order."""
    return type(value) is tuple and tuple([value_kind(item) for item in value]) == kinds


def is_one_of(value, rows):
    """Return whether the value is one of the rows, which are tuples of values."""
    # True equals 1 in Python, but it is no value: equality alone would let it pass.
    return type(value) is tuple and None not in [value_kind(item) for item in value] and value in rows


def is_term(value):
    """Return whether the value is a variable or a value."""
    return is_variable(value) or value_kind(value) is not None
