"""The faults of lists and weavings in papers; each function returns the first fault, or None if there is none.

All of them are handed what has the right form. They go along steps that are given, and search nothing.
"""

from movedrows.alike import double_followers, double_stepped, first_double, is_parted
from movedrows.asked import asked_index
from movedrows.back import is_right, readers_followers
from movedrows.errors import CannotStep
from movedrows.logs import first_trace, trace_followers
from movedrows.mends import with_choice
from movedrows.reach import followers_of
from movedrows.rules import rules_with
from movedrows.standings import first_standing
from movedrows.steps import can_do, steps_from
from movedrows.trials import open_asked
from movedrows.weavings import log_of, states_along, walked
from movedrows.wishes import followers_for, is_broken, standings_along_for, stepped_for


def closed_fault(first, followers, items):
    """Return the first fault of a list that should have the first item and all that followers(item) leads to."""
    known = {item: True for item in items}
    if first not in known:
        return ("start",)
    for index, item in enumerate(items):
        for step, after in followers(item):
            if after not in known:
                return ("open", index, step)
    return None


def closed_list_fault(way, rules, listed):
    """Return the first fault of a list of standings that should be closed by the way and rules."""
    return closed_fault(first_standing(way), lambda standing: followers_of(way, rules, standing), listed)


def closed_wish_fault(way, rules, word, listed):
    """Return the first fault of a list of standings that should be closed by these and the wish."""
    return closed_fault(first_standing(way), lambda standing: followers_for(way, rules, word, standing), listed)


def closed_doubles_fault(way, rules, others, listed):
    """Return the first fault of a list of double standings that should be closed."""
    return closed_fault(first_double(way), lambda double: double_followers(way, rules, others, double), listed)


def closed_traces_fault(way, rules, log, listed):
    """Return the first fault of a list of traces that should be closed."""
    return closed_fault(first_trace(way), lambda trace: trace_followers(way, rules, log, trace), listed)


def wish_fault(word, listed):
    """Return the first fault of a list in which the wish should be broken nowhere."""
    for index, standing in enumerate(listed):
        if is_broken(word, standing):
            return ("wish", index)
    return None


def kept_fault(way, rules, word, listed):
    """Return the first fault of a list that should show that the wish is kept."""
    return closed_wish_fault(way, rules, word, listed) or wish_fault(word, listed)


def lists_fault(way, rules, wishes, lists):
    """Return the first fault of lists that should show for each of the wishes that it is kept."""
    for index, (word, listed) in enumerate(zip(wishes, lists)):
        fault = kept_fault(way, rules, word, listed)
        if fault is not None:
            return ("list", index, fault)
    return None


def broken_fault(way, rules, word, weaving):
    """Return the first fault of a weaving that should break the wish."""
    try:
        along = standings_along_for(way, rules, word, weaving)
    except CannotStep as stop:
        return ("step", stop.index)
    return None if is_broken(word, along[-1]) else ("wish",)


def breaks_fault(way, rules, options, chosen, breaks):
    """Return the first fault of breaks that should break a wish with each of the chosen choices, in their order."""
    if len(breaks) != len(chosen):
        return ("many",)
    for index, (choice, broken) in enumerate(zip(chosen, breaks)):
        word, weaving = broken
        with_it, rules_with_it = with_choice(way, rules, options, choice)
        fault = broken_fault(with_it, rules_with_it, word, weaving)
        if fault is not None:
            return ("break", index, fault)
    return None


def levels_fault(way, rules, word, many, listed, levels):
    """Return the first fault of levels by which no fewer than so many steps break the wish."""
    level_of = dict(zip(listed, levels))
    first = first_standing(way)
    for index, standing in enumerate(listed):
        level = level_of[standing]
        if (standing == first and level != 0) or (level < many and is_broken(word, standing)):
            return ("level", index)
        if any([level + 1 < level_of[after] for _, after in followers_for(way, rules, word, standing)]):
            return ("level", index)
    return None


def differ_fault(listed):
    """Return the first fault of a list of double standings in which what the two show should differ nowhere."""
    for index, double in enumerate(listed):
        if is_parted(double):
            return ("differ", index)
    return None


def parted_fault(way, rules, others, weaving):
    """Return the first fault of a weaving that should part the two tables of rules."""
    first = first_double(way)
    try:
        along = states_along(way, first, lambda ahead, step: double_stepped(way, rules, others, ahead, step), weaving)
    except CannotStep as stop:
        return ("step", stop.index)
    return None if is_parted(along[-1]) else ("same",)


def walk_fault(way, rules, weaving):
    """Return the first fault of a weaving that should be one that can be walked."""
    try:
        walked(way, rules, weaving)
    except CannotStep as stop:
        return ("step", stop.index)
    return None


def asks_fault(way, listed, index):
    """Return the first fault of a list in which no step that can be done should ask the rule with the index."""
    for place, standing in enumerate(listed):
        if any([asked_index(standing, step) == index for step in steps_from(way, standing)]):
            return ("asks", place)
    return None


def asking_fault(way, rules, index, weaving):
    """Return the first fault of a weaving whose last step should ask the rule with the index."""
    fault = walk_fault(way, rules, weaving)
    if fault is not None:
        return fault
    asks = weaving != () and asked_index(walked(way, rules, weaving[:-1]), weaving[-1]) == index
    return None if asks else ("asks",)


def explaining_fault(way, rules, log, weaving):
    """Return the first fault of a weaving that should have the log."""
    fault = walk_fault(way, rules, weaving)
    if fault is not None:
        return fault
    return None if log_of(way, rules, weaving) == log else ("log",)


def end_fault(log, listed):
    """Return the first fault of a list of traces none of which should have the whole log."""
    for index, trace in enumerate(listed):
        if trace[0] == len(log):
            return ("end", index)
    return None


def values_fault(way, rules, weights, most, listed, values):
    """Return the first fault of values, each at most most, by which all standings of a closed list have a way back.

    A value is a weight and a number of steps, which only falls on the way: so it comes to an end also where
    steps weigh nothing. most is None if the weights have no bound.
    """
    value_of = dict(zip(listed, values))
    for index, standing in enumerate(listed):
        least, steps = value_of[standing]
        if most is not None and least > most:
            return ("value", index)
        afters = [(weight, value_of[after]) for _, weight, after in readers_followers(way, rules, weights, standing)]
        led = [later + weight <= least and fewer < steps for weight, (later, fewer) in afters]
        if not is_right(standing) and not any(led):
            return ("value", index)
    return None


def leads_fault(way, rules, weights, others):
    """Return the first fault of a list that no reader's step should leave."""
    known = {standing: True for standing in others}
    for index, standing in enumerate(others):
        for step, _, after in readers_followers(way, rules, weights, standing):
            if after not in known:
                return ("leads", index, step)
    return None


def others_fault(way, rules, weights, weaving, others):
    """Return the first fault of a weaving that should lead into such a list."""
    fault = walk_fault(way, rules, weaving)
    if fault is not None:
        return fault
    if walked(way, rules, weaving) not in others:
        return ("lies",)
    return leads_fault(way, rules, weights, others)


def right_fault(others):
    """Return the first fault of a list in which no standing should be right."""
    for index, standing in enumerate(others):
        if is_right(standing):
            return ("right", index)
    return None


def bounds_fault(way, rules, weights, others, bounds):
    """Return the first fault of bounds that no way back in a list which no reader's step leaves should be below."""
    bound_of = dict(zip(others, bounds))
    for index, standing in enumerate(others):
        bound = bound_of[standing]
        if is_right(standing) and bound != 0:
            return ("bound", index)
        afters = readers_followers(way, rules, weights, standing)
        if any([bound > weight + bound_of[after] for _, weight, after in afters]):
            return ("bound", index)
    return None


def leaf_fault(way, table, word, weaving):
    """Return the first fault of a weaving that should break the wish and ask only indices with an action."""
    standing = first_standing(way)
    for index, step in enumerate(weaving):
        if not can_do(way, standing, step):
            return ("step", index)
        if open_asked(table, standing, step) is not None:
            return ("asks", index)
        standing = stepped_for(way, table, word, standing, step)
    return None if is_broken(word, standing) else ("wish",)


def tree_fault(way, tree, table, path):
    """Return the first fault of a tree; the partial table has the actions on the way to it, which are the path."""
    first, rest = tree
    if isinstance(first, str):
        fault = leaf_fault(way, table, first, rest)
        return None if fault is None else ("leaf", path, fault)
    if table[first] is not None:
        return ("index", path)
    for action, branch in enumerate(rest):
        fault = tree_fault(way, branch, rules_with(table, first, action), path + (action,))
        if fault is not None:
            return fault
    return None
