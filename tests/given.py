"""Values that several tests hand in."""


def nested(deep):
    """Return a value that is this deep."""
    value = ()
    for _ in range(deep):
        value = (value,)
    return value


# Values that are no tuple at all, whatever is asked for.
NO_TUPLES = (
    None, True, False, 0, 1, -1, 27, 10 ** 30, "", "text", "012", "012012012",
    [], [1], [0] * 27, {}, {0: 1}, {"one": [1, 2]}, [[1, (2, None)], {"a": ()}],
)

# Values that are no integer at all, True and False among them.
NO_INTEGERS = (None, True, False, "", "1", "text", (), (1,), [], [1], {}, {1: 1}, nested(99))
