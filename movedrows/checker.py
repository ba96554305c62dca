"""The checker: whether a certificate is right, by its paper alone, without any search."""

from movedrows.claims import require_claim
from movedrows.errors import InvalidClaim
from movedrows.faults import asking_fault, asks_fault, bounds_fault, breaks_fault, broken_fault, closed_doubles_fault
from movedrows.faults import closed_list_fault, closed_traces_fault, closed_wish_fault, differ_fault, end_fault
from movedrows.faults import explaining_fault, kept_fault, levels_fault, lists_fault, others_fault, parted_fault
from movedrows.faults import right_fault, tree_fault, values_fault
from movedrows.forms import are_bounds, are_breaks, are_levels, are_values, are_wish_lists, is_choice, is_double_list
from movedrows.forms import is_list, is_table, is_trace_list, is_tree, is_way, is_weaving, is_wish_list
from movedrows.mends import choice_cost, choices_by_cost, with_choice
from movedrows.papers import BROKEN, SHOWN
from movedrows.parts import is_tuple_of
from movedrows.trials import NO_ACTIONS
from movedrows.ways import is_way_within
from movedrows.weavings import walked

PAPER = ("paper",)
WITHIN = ("within",)


def is_tagged(paper, word, many):
    """Return whether any value is a tuple of so many parts, the word first."""
    return is_tuple_of(paper, many) and paper[0] == word


def way_beside(paper, word, way):
    """Return another way and what stands beside it, if any value is a paper with the word; else the way and it."""
    if is_tagged(paper, word, 3):
        return (paper[1], paper[2])
    return (way, paper)


def keeps_fault(claim, verdict, paper):
    """Return the first fault of a paper for a claim of keeps."""
    _, way, rules, word = claim
    if verdict == SHOWN:
        wide, listed = way_beside(paper, "wide", way)
        if not is_way(wide) or not is_wish_list(wide, listed):
            return PAPER
        return kept_fault(wide, rules, word, listed) if is_way_within(way, wide) else WITHIN
    narrow, weaving = way_beside(paper, "narrow", way)
    if not is_way(narrow) or not is_weaving(weaving):
        return PAPER
    return broken_fault(narrow, rules, word, weaving) if is_way_within(narrow, way) else WITHIN


def just_so_soon_fault(claim, paper):
    """Return the first fault of a paper that shows a claim of soonest with a number of steps."""
    _, way, rules, word, many = claim
    if not is_tuple_of(paper, 3):
        return PAPER
    listed, levels, weaving = paper
    if not is_wish_list(way, listed) or not are_levels(levels, len(listed)) or not is_weaving(weaving):
        return PAPER
    fault = closed_wish_fault(way, rules, word, listed) or levels_fault(way, rules, word, many, listed, levels)
    fault = fault or broken_fault(way, rules, word, weaving)
    return fault or (None if len(weaving) == many else ("length",))


def sooner_fault(claim, weaving):
    """Return the first fault of a weaving that breaks the wish of a claim of soonest too soon for it."""
    _, way, rules, word, many = claim
    too_long = many is not None and len(weaving) >= many
    return broken_fault(way, rules, word, weaving) or (("length",) if too_long else None)


def later_fault(claim, listed, levels):
    """Return the first fault of levels by which the wish of a claim of soonest is broken later than it says."""
    _, way, rules, word, many = claim
    fault = closed_wish_fault(way, rules, word, listed)
    return fault or levels_fault(way, rules, word, many + 1, listed, levels)


def soonest_fault(claim, verdict, paper):
    """Return the first fault of a paper for a claim of soonest."""
    _, way, rules, word, many = claim
    if verdict == SHOWN:
        if many is not None:
            return just_so_soon_fault(claim, paper)
        return kept_fault(way, rules, word, paper) if is_wish_list(way, paper) else PAPER
    if is_tagged(paper, "sooner", 2) and is_weaving(paper[1]):
        return sooner_fault(claim, paper[1])
    if many is not None and is_tagged(paper, "kept", 2) and is_wish_list(way, paper[1]):
        return kept_fault(way, rules, word, paper[1])
    if many is not None and is_tagged(paper, "later", 3):
        _, listed, levels = paper
        if is_wish_list(way, listed) and are_levels(levels, len(listed)):
            return later_fault(claim, listed, levels)
    return PAPER


def alike_fault(claim, verdict, paper):
    """Return the first fault of a paper for a claim of alike."""
    _, way, rules, others = claim
    if verdict == SHOWN:
        if not is_double_list(way, paper):
            return PAPER
        return closed_doubles_fault(way, rules, others, paper) or differ_fault(paper)
    return parted_fault(way, rules, others, paper) if is_weaving(paper) else PAPER


def needless_fault(claim, verdict, paper):
    """Return the first fault of a paper for a claim of needless."""
    _, way, rules, index = claim
    if verdict == SHOWN:
        if not is_list(way, paper):
            return PAPER
        return closed_list_fault(way, rules, paper) or asks_fault(way, paper, index)
    return asking_fault(way, rules, index, paper) if is_weaving(paper) else PAPER


def is_less(way, parts):
    """Return whether the pair of any values is a list of standings and their values."""
    listed, values = parts
    return is_list(way, listed) and are_values(values, len(listed))


def is_never(way, parts):
    """Return whether the pair of any values is a weaving and a list."""
    weaving, others = parts
    return is_weaving(weaving) and is_list(way, others)


def is_more(way, parts):
    """Return whether the triple of any values is a weaving, a list and its bounds."""
    return is_never(way, parts[:2]) and are_bounds(parts[2], len(parts[1]))


def less_fault(claim, most, parts):
    """Return the first fault of a list and values by which no way back weighs more than most, if it is not None."""
    _, way, rules, weights, _ = claim
    listed, values = parts
    return closed_list_fault(way, rules, listed) or values_fault(way, rules, weights, most, listed, values)


def never_fault(claim, parts):
    """Return the first fault of a weaving and a list by which its end has no way back."""
    _, way, rules, weights, _ = claim
    weaving, others = parts
    return others_fault(way, rules, weights, weaving, others) or right_fault(others)


def more_fault(claim, least, parts):
    """Return the first fault of a weaving, a list and bounds by which the way back of its end weighs at least least."""
    _, way, rules, weights, _ = claim
    weaving, others, bounds = parts
    fault = others_fault(way, rules, weights, weaving, others) or bounds_fault(way, rules, weights, others, bounds)
    if fault is not None:
        return fault
    bound = bounds[others.index(walked(way, rules, weaving))]
    return None if bound >= least else ("weight",)


def shown_back_fault(claim, paper):
    """Return the first fault of a paper that shows a claim of back."""
    _, way, _, _, most = claim
    if most is None:
        return never_fault(claim, paper) if is_tuple_of(paper, 2) and is_never(way, paper) else PAPER
    if not is_tuple_of(paper, 5) or not is_less(way, paper[:2]) or not is_more(way, paper[2:]):
        return PAPER
    # A bound above most cannot be here: the values have shown already that no way back weighs more.
    return less_fault(claim, most, paper[:2]) or more_fault(claim, most, paper[2:])


def back_fault(claim, verdict, paper):
    """Return the first fault of a paper for a claim of back."""
    _, way, _, _, most = claim
    if verdict == SHOWN:
        return shown_back_fault(claim, paper)
    if is_tagged(paper, "less", 3) and is_less(way, paper[1:]):
        return less_fault(claim, None if most is None else most - 1, paper[1:])
    if most is not None and is_tagged(paper, "more", 4) and is_more(way, paper[1:]):
        return more_fault(claim, most + 1, paper[1:])
    if most is not None and is_tagged(paper, "never", 3) and is_never(way, paper[1:]):
        return never_fault(claim, paper[1:])
    return PAPER


def is_mending(claim, choice, lists):
    """Return whether any values are a choice and a list for each of the wishes with it."""
    _, way, rules, wishes, options, _ = claim
    if not is_choice(options, choice):
        return False
    with_it, _ = with_choice(way, rules, options, choice)
    return are_wish_lists(with_it, wishes, lists)


def mending_fault(claim, choice, lists):
    """Return the first fault of lists that should show that the choice mends."""
    _, way, rules, wishes, options, _ = claim
    with_it, rules_with_it = with_choice(way, rules, options, choice)
    return lists_fault(with_it, rules_with_it, wishes, lists)


def unmended_fault(claim, most, breaks):
    """Return the first fault of breaks that should be there for each choice that costs at most most, if not None."""
    _, way, rules, _, options, _ = claim
    chosen = [choice for cost, choice in choices_by_cost(options) if most is None or cost <= most]
    return breaks_fault(way, rules, options, chosen, breaks)


def cheapest_fault(claim, paper):
    """Return the first fault of a paper that shows a claim of mend with a cost."""
    _, _, _, wishes, options, most = claim
    if not is_tuple_of(paper, 3):
        return PAPER
    choice, lists, breaks = paper
    if not is_mending(claim, choice, lists) or not are_breaks(wishes, breaks):
        return PAPER
    if choice_cost(options, choice) != most:
        return ("cost",)
    return mending_fault(claim, choice, lists) or unmended_fault(claim, most - 1, breaks)


def mend_fault(claim, verdict, paper):
    """Return the first fault of a paper for a claim of mend."""
    _, _, _, wishes, options, most = claim
    if verdict == SHOWN:
        if most is not None:
            return cheapest_fault(claim, paper)
        return unmended_fault(claim, None, paper) if are_breaks(wishes, paper) else PAPER
    if is_tagged(paper, "less", 3) and is_mending(claim, paper[1], paper[2]):
        _, choice, lists = paper
        if most is not None and choice_cost(options, choice) >= most:
            return ("cost",)
        return mending_fault(claim, choice, lists)
    if most is not None and is_tagged(paper, "more", 2) and are_breaks(wishes, paper[1]):
        return unmended_fault(claim, most, paper[1])
    return PAPER


def log_fault(claim, verdict, paper):
    """Return the first fault of a paper for a claim of log."""
    _, way, rules, log = claim
    if verdict == SHOWN:
        return explaining_fault(way, rules, log, paper) if is_weaving(paper) else PAPER
    if not is_trace_list(way, log, paper):
        return PAPER
    return closed_traces_fault(way, rules, log, paper) or end_fault(log, paper)


def none_fault(claim, verdict, paper):
    """Return the first fault of a paper for a claim of none."""
    _, way, wishes = claim
    if verdict == SHOWN:
        narrow, tree = way_beside(paper, "narrow", way)
        if not is_way(narrow) or not is_tree(wishes, tree):
            return PAPER
        return tree_fault(narrow, tree, NO_ACTIONS, ()) if is_way_within(narrow, way) else WITHIN
    if not is_tuple_of(paper, 2) or not is_table(paper[0]) or not are_wish_lists(way, wishes, paper[1]):
        return PAPER
    rules, lists = paper
    return lists_fault(way, rules, wishes, lists)


# What checks the paper of each claim.
FAULTS = {
    "keeps": keeps_fault,
    "soonest": soonest_fault,
    "alike": alike_fault,
    "needless": needless_fault,
    "back": back_fault,
    "mend": mend_fault,
    "log": log_fault,
    "none": none_fault,
}


def first_fault(certificate):
    """Return None for any value that is a right certificate, else the first fault."""
    if not is_tuple_of(certificate, 3):
        return ("form",)
    verdict, claim, paper = certificate
    try:
        require_claim(claim)
    except InvalidClaim:
        return ("claim",)
    if verdict not in (SHOWN, BROKEN):
        return PAPER
    fault_of = FAULTS[claim[0]]
    return fault_of(claim, verdict, paper)
