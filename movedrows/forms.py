"""The forms of what is handed in with certificates and texts: steps, weavings, standings, lists of these, trees."""

from movedrows.alike import OTHER_HELD, double_ranked
from movedrows.errors import InvalidRules, InvalidWay
from movedrows.mends import choices
from movedrows.parts import is_ascending, is_between, is_integer, is_tuple_of
from movedrows.rules import RULES, require_rules
from movedrows.standings import MEMORY, NO_MEMORY, ranked
from movedrows.steps import LOOKED
from movedrows.ways import LANES, PICTURE, lane_of, require_way

MOST_STEPS = 10000
MOST_STANDINGS = 2000
MOST_ENTRIES = 12
MOST_LEAVES = 2000
MOST_NODES = 27
MOST_LEVELS = 2000
GREATEST_SUM = 10 ** 40

# The least and the greatest value of each part behind the word of a step.
STEP_RANGES = {
    "change": ((0, 2),),
    "take": ((0, 1),),
    "slip": ((0, 1),),
    "mark": ((0, 1),),
    "fall": ((0, 1),),
    "press": ((0, 1), (0, 999)),
    "wipe": ((0, 1), (0, 999)),
    "picture": (),
    "look": ((1, 2),),
    "end": (),
    "peek": ((1, 2),),
}


def is_way(value):
    """Return whether any value is a way."""
    try:
        require_way(value)
    except InvalidWay:
        return False
    return True


def is_table(value):
    """Return whether any value is a table of rules."""
    try:
        require_rules(value)
    except InvalidRules:
        return False
    return True


def is_choice(options, value):
    """Return whether any value is a choice of the options."""
    # True and False are equal to integers for Python, but they are no indices.
    if not isinstance(value, tuple) or not all([is_integer(index) for index in value]):
        return False
    return value in list(choices(options))


def is_step(value):
    """Return whether any value is a step in its form, whether it can be done or not."""
    if not isinstance(value, tuple) or value == ():
        return False
    word = value[0]
    if not isinstance(word, str) or word not in STEP_RANGES or len(value) != len(STEP_RANGES[word]) + 1:
        return False
    return all([is_between(part, *around) for part, around in zip(value[1:], STEP_RANGES[word])])


def is_weaving(value):
    """Return whether any value is a weaving in its form."""
    return isinstance(value, tuple) and len(value) <= MOST_STEPS and all([is_step(each) for each in value])


def is_entry(way, lane, value):
    """Return whether any value is an entry that goes into the lane."""
    if not is_tuple_of(value, 3):
        return False
    key, kind, stamp = value
    if not is_between(key, 1, 2) or lane_of(way, key) != lane:
        return False
    return is_between(kind, 0, 1) and is_integer(stamp) and stamp >= 1


def is_lane_part(way, lane, value):
    """Return whether any value is again or untaken of the lane."""
    if not isinstance(value, tuple) or len(value) > MOST_ENTRIES:
        return False
    return all([is_entry(way, lane, entry) for entry in value])


def is_lane(way, lane, value):
    """Return whether any value is the pair of again and untaken of the lane."""
    return is_tuple_of(value, 2) and all([is_lane_part(way, lane, part) for part in value])


def are_lanes(way, value):
    """Return whether any value is the lanes of a standing."""
    if not is_tuple_of(value, way[LANES]):
        return False
    return all([is_lane(way, lane, part) for lane, part in enumerate(value)])


def is_slot(value):
    """Return whether any value is what may be held under a key."""
    if value == ():
        return True
    if not is_tuple_of(value, 2):
        return False
    kind, stamp = value
    return is_between(kind, 0, 2) and is_integer(stamp) and stamp >= 1


def are_holdings(value):
    """Return whether any value is the holdings of a row."""
    return is_tuple_of(value, 2) and all([is_slot(slot) for slot in value])


def is_phase(way, value):
    """Return whether any value is a phase of the way."""
    return is_between(value, 0, LOOKED if way[PICTURE] != 0 else 0)


def is_memory(value):
    """Return whether any value is a memory of a wish."""
    if not is_tuple_of(value, 2):
        return False
    begun, least = value
    return is_between(begun, 0, 1) and is_integer(least) and least >= 0


def has_first_parts(way, value):
    """Return whether any value is a tuple of six, the first five of them as in a standing of the way but for ranks."""
    if not is_tuple_of(value, 6):
        return False
    place, now, lanes, held, phase, _ = value
    if not is_between(place, 0, 2) or not is_integer(now) or now < 0:
        return False
    return are_lanes(way, lanes) and are_holdings(held) and is_phase(way, phase)


def is_wish_standing(way, value):
    """Return whether any value is a standing of the way with the memory of a wish."""
    return has_first_parts(way, value) and is_memory(value[MEMORY]) and ranked(value) == value


def is_standing(way, value):
    """Return whether any value is a standing of the way without a wish."""
    return is_wish_standing(way, value) and value[MEMORY] == NO_MEMORY


def is_double(way, value):
    """Return whether any value is a double standing of the way."""
    return has_first_parts(way, value) and are_holdings(value[OTHER_HELD]) and double_ranked(value) == value


def is_trace(way, log, value):
    """Return whether any value is a trace of the log."""
    return is_tuple_of(value, 2) and is_between(value[0], 1, len(log)) and is_standing(way, value[1])


def is_list_of(value, is_item):
    """Return whether any value is a list of what is_item lets: a strictly ascending tuple."""
    if not isinstance(value, tuple) or len(value) > MOST_STANDINGS:
        return False
    return all([is_item(each) for each in value]) and is_ascending(value)


def is_list(way, value):
    """Return whether any value is a list of standings of the way without a wish."""
    return is_list_of(value, lambda each: is_standing(way, each))


def is_wish_list(way, value):
    """Return whether any value is a list of standings of the way with the memory of a wish."""
    return is_list_of(value, lambda each: is_wish_standing(way, each))


def is_double_list(way, value):
    """Return whether any value is a list of double standings of the way."""
    return is_list_of(value, lambda each: is_double(way, each))


def is_trace_list(way, log, value):
    """Return whether any value is a list of traces of the log."""
    return is_list_of(value, lambda each: is_trace(way, log, each))


def are_wish_lists(way, wishes, value):
    """Return whether any value is a tuple of lists of standings with memory, one for each wish."""
    return is_tuple_of(value, len(wishes)) and all([is_wish_list(way, each) for each in value])


def is_value(value):
    """Return whether any value is a pair of the weight and the steps of a way back."""
    return is_tuple_of(value, 2) and is_between(value[0], 0, GREATEST_SUM) and is_between(value[1], 0, MOST_LEVELS)


def are_values(value, many):
    """Return whether any value is a tuple of so many of these pairs."""
    return is_tuple_of(value, many) and all([is_value(each) for each in value])


def are_levels(value, many):
    """Return whether any value is a tuple of so many levels."""
    return is_tuple_of(value, many) and all([is_between(each, 0, MOST_LEVELS) for each in value])


def are_bounds(value, many):
    """Return whether any value is a tuple of so many bounds of ways back."""
    return is_tuple_of(value, many) and all([is_between(each, 0, GREATEST_SUM) for each in value])


def is_break(wishes, value):
    """Return whether any value is a pair of one of the wishes and a weaving: a break, or a leaf of a tree."""
    return is_tuple_of(value, 2) and value[0] in wishes and is_weaving(value[1])


def are_breaks(wishes, value):
    """Return whether any value is a tuple of breaks."""
    return isinstance(value, tuple) and all([is_break(wishes, each) for each in value])


def is_node(value):
    """Return whether any value is a pair of an index and six of any values."""
    return is_tuple_of(value, 2) and is_between(value[0], 0, RULES - 1) and is_tuple_of(value[1], 6)


def leaves_in(wishes, value, room):
    """Return the number of leaves of any value that is a tree, room being how many nodes it may be deep, or None.

    It is None also where there are too many leaves: so no more of them are looked at.
    """
    if is_break(wishes, value):
        return 1
    if not is_node(value) or room == 0:
        return None
    leaves = 0
    for each in value[1]:
        found = leaves_in(wishes, each, room - 1)
        if found is None or leaves + found > MOST_LEAVES:
            return None
        leaves = leaves + found
    return leaves


def is_tree(wishes, value):
    """Return whether any value is a tree for the wishes."""
    return leaves_in(wishes, value, MOST_NODES) is not None
