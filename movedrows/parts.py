"""What the checks of values built of parts have in common."""


def is_integer(value):
    """Return whether any value is an integer."""
    # True and False count as ints for Python, but they are no integers here.
    return isinstance(value, int) and not isinstance(value, bool)


def is_between(value, least, greatest):
    """Return whether any value is an integer from least to greatest."""
    return is_integer(value) and least <= value <= greatest


def is_tuple_of(value, many):
    """Return whether any value is a tuple of so many parts."""
    return isinstance(value, tuple) and len(value) == many


def is_ascending(values):
    """Return whether the values, which can be ordered, are strictly ascending."""
    return all([one < other for one, other in zip(values, values[1:])])
