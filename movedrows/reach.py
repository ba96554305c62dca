"""All standings of a way and rules, and shortest weavings to them."""

from movedrows.search import LIMIT, explored, step_counts, weaving_in
from movedrows.standings import first_standing, ranked
from movedrows.steps import stepped, steps_from


def followers_of(way, rules, standing):
    """Return a list of (step, standing after it) for all steps that can be done."""
    return [(step, stepped(way, rules, standing, step)) for step in steps_from(way, standing)]


def reached(way, rules, limit):
    """Return the search of all standings of the way and rules."""
    return explored(first_standing(way), lambda standing: followers_of(way, rules, standing), limit)


def standings(way, rules, *, limit=LIMIT):
    """Return the strictly ascending tuple of all standings of the way and rules."""
    return tuple(sorted(reached(way, rules, limit)))


def least_steps(way, rules, *, limit=LIMIT):
    """Return the least number of steps to each of the standings, in their ascending order."""
    counts = step_counts(reached(way, rules, limit))
    return tuple([counts[standing] for standing in sorted(counts)])


def weaving_to(way, rules, standing, *, limit=LIMIT):
    """Return a shortest weaving that leads to the standing with ranks, or None."""
    origins = reached(way, rules, limit)
    sought = ranked(standing)
    return weaving_in(origins, sought) if sought in origins else None
