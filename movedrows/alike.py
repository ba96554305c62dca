"""Two readers with two tables of rules, who take the same entries and looks by the same steps."""

from movedrows.search import LIMIT, explored, weaving_in
from movedrows.standings import HELD, first_standing, fresh_stamp, rows_in, stamps_in
from movedrows.standings import ranked_lanes, ranked_slots, ranks_of
from movedrows.steps import asking_entry, held_behind, moved, steps_from

# Where a double standing has what the second reader holds; its other parts stand as in a standing.
OTHER_HELD = 5


def first_double(way):
    """Return the double standing ahead of all steps."""
    first = first_standing(way)
    return first[:OTHER_HELD] + (first[HELD],)


def double_stamps(double):
    """Return a list of all stamps in the double standing."""
    _, now, lanes, held, _, other = double
    return stamps_in(now, lanes, held + other)


def double_ranked(double):
    """Return the double standing with ranks over both sides in the place of its stamps."""
    place, now, lanes, held, phase, other = double
    ranks = ranks_of(double_stamps(double))
    lanes = ranked_lanes(ranks, lanes)
    held = ranked_slots(ranks, held)
    return (place, ranks[now], lanes, held, phase, ranked_slots(ranks, other))


def double_stepped(way, rules, others, double, step):
    """Return the double standing after a step that can be done, with ranks."""
    place, now, lanes, phase = moved(way, double, step, fresh_stamp(double_stamps(double)))
    entry = asking_entry(double, step)
    held = held_behind(rules, double[HELD], entry)
    other = held_behind(others, double[OTHER_HELD], entry)
    return double_ranked((place, now, lanes, held, phase, other))


def double_followers(way, rules, others, double):
    """Return a list of (step, double standing after it) for all steps that can be done."""
    return [(step, double_stepped(way, rules, others, double, step)) for step in steps_from(way, double)]


def doubles_reached(way, rules, others, limit):
    """Return the search of all double standings."""
    return explored(first_double(way), lambda double: double_followers(way, rules, others, double), limit)


def is_parted(double):
    """Return whether the two readers show different rows or different stamps."""
    return rows_in(double[HELD]) != rows_in(double[OTHER_HELD])


def double_standings(way, rules, others, *, limit=LIMIT):
    """Return the strictly ascending tuple of all double standings."""
    return tuple(sorted(doubles_reached(way, rules, others, limit)))


def parting_in(origins):
    """Return a shortest weaving of a search of double standings after which what the two show differs, or None."""
    for double in origins:
        if is_parted(double):
            return weaving_in(origins, double)
    return None


def parting(way, rules, others, *, limit=LIMIT):
    """Return a shortest weaving after which what the two show differs, or None."""
    return parting_in(doubles_reached(way, rules, others, limit))


def are_alike(way, rules, others, *, limit=LIMIT):
    """Return whether the two tables of rules are alike by the way."""
    return parting(way, rules, others, limit=limit) is None
