"""The least lag, marks and wipe with which a wish is no longer kept."""

from movedrows.search import LIMIT
from movedrows.ways import LAG, MARKS, RANGES, WIPE, way_with
from movedrows.wishes import keeps


def least_part(way, rules, word, part, limit):
    """Return the least value of this part of the way with which it does not keep the wish, or None."""
    least, greatest = RANGES[part]
    for value in range(least, greatest + 1):
        if not keeps(way_with(way, part, value), rules, word, limit=limit):
            return value
    return None


def least_lag(way, rules, word, *, limit=LIMIT):
    """Return the least lag with which the way, else as it is, does not keep the wish, or None."""
    return least_part(way, rules, word, LAG, limit)


def least_marks(way, rules, word, *, limit=LIMIT):
    """Return the least marks with which the way, else as it is, does not keep the wish, or None."""
    return least_part(way, rules, word, MARKS, limit)


def least_wipe(way, rules, word, *, limit=LIMIT):
    """Return the least wipe with which the way, else as it is, does not keep the wish, or None."""
    return least_part(way, rules, word, WIPE, limit)
