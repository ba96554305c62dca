"""Claims of each kind, true and false ones, for the tests of what decides and checks them."""

from given import AHEAD, APART, LAG, MARKS, PEEKS, PICTURE, SLIPS, WIPE, own_rules, with_parts
from movedrows.rules import named_rules, rules_with

OVER, KEY, ROW = named_rules("over"), named_rules("key"), named_rules("row")

# Weights of several kinds: another one for each step, all 0, 0 for some.
EACH = (5, 7, 11, 13, 17, 19, 23, 29)
NONE = (0,) * 8
SOME = (0, 3, 0, 0, 1, 0, 2, 0)

SLIPPING = with_parts(AHEAD, {SLIPS: 1})
PEEKING = with_parts(AHEAD, {PEEKS: 1})
PICTURED = with_parts(AHEAD, {PICTURE: 2})
MARKED = with_parts(APART, {MARKS: 1})
WIPED = with_parts(AHEAD, {WIPE: 2})
ROW_FIRST = (1, 1) + AHEAD[2:]
MOVING = rules_with(ROW, 9, 0)

# Way, rules and wish: whether it is kept, or the least number of steps that break it, is told by plain searches.
SETTINGS = (
    (APART, OVER, "one"), (APART, ROW, "one"), (APART, KEY, "on"), (AHEAD, OVER, "there"), (AHEAD, ROW, "on"),
    (AHEAD, KEY, "ends"), (SLIPPING, KEY, "ends"), (ROW_FIRST, ROW, "there"), (ROW_FIRST, OVER, "one"),
    (PEEKING, OVER, "one"), (MARKED, OVER, "on"), (MARKED, ROW, "there"), (PICTURED, ROW, "one"),
    (AHEAD, own_rules(3), "on"), (WIPED, OVER, "ends"),
)

# Way, rules and other rules.
PAIRS = (
    (APART, OVER, KEY), (APART, OVER, ROW), (AHEAD, OVER, OVER), (SLIPPING, OVER, KEY), (PEEKING, KEY, ROW),
    (AHEAD, ROW, MOVING), (AHEAD, rules_with(KEY, 26, 3), KEY), (APART, own_rules(1), own_rules(2)),
    (PEEKING, rules_with(KEY, 1, 4), KEY),
)

# Way, rules and an index.
INDICES = tuple((way, rules, index) for way, rules in (
    (AHEAD, OVER), (PEEKING, KEY), (APART, ROW)) for index in (0, 1, 9, 10, 14, 18, 26))

# Way, rules and weights: with and without a way back from all standings.
BACKS = (
    (APART, KEY, EACH), (APART, KEY, NONE), (APART, KEY, SOME), (SLIPPING, KEY, EACH), (AHEAD, OVER, EACH),
    (MARKED, OVER, EACH), (MARKED, OVER, SOME), (PEEKING, ROW, EACH), (with_parts(SLIPPING, {PEEKS: 1}), OVER, EACH),
    (APART, OVER, (10 ** 30,) * 8), (with_parts(SLIPPING, {PICTURE: 1}), OVER, SOME),
)

# Way, rules, wishes and options.
MENDS = (
    (APART, OVER, ("one",), ((0, 1, 5), (1, 1, 2))),
    (APART, ROW, ("one",), ((0, 1, 5), (1, 1, 2))),
    (APART, OVER, ("one",), ((1, 1, 2),)),
    (APART, OVER, ("one",), ((0, 1, 0), (1, 1, 0), (0, 1, 99))),
    (APART, OVER, ("one",), ((0, 1, 5), (1, 1, 4))),
    (with_parts(APART, {SLIPS: 1}), OVER, ("ends", "one"), ((0, 1, 5), (4, 0, 7))),
    (with_parts(APART, {SLIPS: 1}), OVER, ("ends", "on", "one"), ((4, 0, 7), (0, 1, 5), (2, 2, 12))),
    (AHEAD, rules_with(OVER, 9, 0), ("ends", "on"), ((18, 3, 1), (18, 1, 9))),
)

# Way, rules, wishes, options and the first choice that mends: one behind it has more standings than all up to it.
BEHIND = (
    # The first one behind it, which mends, too.
    (AHEAD, (2, 2, 0, 2, 2, 0, 0, 0, 0, 2, 2, 0, 2, 2, 0, 0, 0, 0, 3, 3, 0, 3, 0, 0, 0, 0, 0), ("on",),
     ((2, 2, 1), (15, 1, 1), (24, 5, 20)), ()),
    # The last one of several, which does not mend.
    (AHEAD, OVER, ("one",), ((2, 3, 1), (4, 1, 1)), ()),
    # One of the greatest cost, of the same cost, of cost 0.
    (APART, OVER, ("one",), ((0, 1, 5), (2, 2, 99)), (0,)),
    (APART, OVER, ("one",), ((0, 1, 5), (2, 2, 5)), (0,)),
    (APART, OVER, ("one",), ((1, 1, 4), (0, 1, 0), (2, 2, 0)), (1,)),
    # By the first wish alone; by a later one alone, behind one that is broken there.
    (AHEAD, OVER, ("on", "one"), ((1, 1, 2),), ()),
    (AHEAD, ROW, ("ends", "on"), ((4, 1, 5),), ()),
    # Behind a choice of several options; a choice of three.
    (with_parts(APART, {SLIPS: 1}), OVER, ("ends", "one"), ((0, 1, 5), (4, 0, 7), (2, 2, 13)), (0, 1)),
    (APART, ROW, ("ends", "on"), ((11, 5, 1), (6, 3, 5), (7, 1, 5)), ()),
)

# The same without a choice that mends: the last one has the most standings.
MENDLESS = (SLIPPING, OVER, ("ends",), ((3, 1, 1), (8, 1, 8)))

# Way, rules and a log.
LOGS = (
    (APART, OVER, (0, 1, 3)), (AHEAD, OVER, (0, 1, 3)), (AHEAD, OVER, (0,)), (AHEAD, OVER, (0, 1, 2)),
    (ROW_FIRST, ROW, (0, 1, 2, 1)), (PEEKING, KEY, (0, 2, 0, 1)), (APART, ROW, (0, 3)), (AHEAD, own_rules(3), (0, 1)),
    (AHEAD, ROW, (0, 1, 0, 2, 0, 1, 0, 2)),
)

# Way and wishes: with a table of rules that keeps them, and without one.
TRIALS = (
    (AHEAD, ("ends",)), (AHEAD, ("ends", "there")), (AHEAD, ("on", "one")), (SLIPPING, ("ends",)),
    (SLIPPING, ("on", "one", "there")), (APART, ("ends", "one", "there")), (PEEKING, ("ends",)),
    (with_parts(AHEAD, {LAG: 2}), ("ends", "one", "there")),
)
