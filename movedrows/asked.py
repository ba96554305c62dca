"""Which rules are asked at all, and by which weavings."""

from movedrows.reach import reached
from movedrows.rules import asked_rule
from movedrows.search import LIMIT, weaving_in
from movedrows.standings import HELD
from movedrows.steps import asking_entry, steps_from


def asked_index(standing, step):
    """Return the index of the rule that a step which can be done asks, or None if it asks none."""
    entry = asking_entry(standing, step)
    return None if entry is None else asked_rule(standing[HELD], entry)


def first_asking_steps(way, origins):
    """Return a dict from each asked index to (a standing with the least steps to it, the step that asks)."""
    firsts = {}
    for standing in origins:
        for step in steps_from(way, standing):
            index = asked_index(standing, step)
            if index is not None and index not in firsts:
                firsts[index] = (standing, step)
    return firsts


def asked_rules(way, rules, *, limit=LIMIT):
    """Return the ascending tuple of the indices of rules that are asked."""
    return tuple(sorted(first_asking_steps(way, reached(way, rules, limit))))


def asking_in(way, origins, index):
    """Return a shortest weaving of a search of standings whose last step asks the rule with the index, or None."""
    firsts = first_asking_steps(way, origins)
    if index not in firsts:
        return None
    standing, step = firsts[index]
    return weaving_in(origins, standing) + (step,)


def asking(way, rules, index, *, limit=LIMIT):
    """Return a shortest weaving whose last step asks the rule with the index, or None."""
    return asking_in(way, reached(way, rules, limit), index)
