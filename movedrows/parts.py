"""What the checks of values built of parts have in common."""


def is_between(value, least, greatest):
    """Return whether any value is an integer from least to greatest."""
    # True and False count as ints for Python, but they are no integers here.
    if isinstance(value, bool) or not isinstance(value, int):
        return False
    return least <= value <= greatest
