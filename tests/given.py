"""Values that several tests hand in."""

import random

from plain import WISHES, plain_ranked


def nested(deep):
    """Return a value that is this deep."""
    value = ()
    for _ in range(deep):
        value = (value,)
    return value


# Values that are no tuple at all, whatever is asked for.
NO_TUPLES = (
    None, True, False, 0, 1, -1, 27, 10 ** 30, "", "text", "012", "012012012",
    [], [1], [0] * 27, {}, {0: 1}, {"one": [1, 2]}, [[1, (2, None)], {"a": ()}],
)

# Values that are no integer at all, True and False among them.
NO_INTEGERS = (None, True, False, "", "1", "text", (), (1,), [], [1], {}, {1: 1}, nested(99))

# Values that are no step at all.
NO_STEPS = NO_TUPLES + (
    (), ("",), ("changes", 1), ("Take", 0), ("take ", 0), ("table",), ("undo",), (0,), (None,), (True, 1),
    (("take", 0),),
    ("change",), ("take",), ("slip",), ("mark",), ("fall",), ("look",), ("peek",), ("press", 0), ("wipe", 0),
    ("change", 1, 0), ("take", 0, 0), ("slip", 0, 0), ("mark", 0, 0), ("fall", 0, 0), ("press", 0, 0, 0),
    ("wipe", 0, 0, 0), ("picture", 0), ("look", 1, 1), ("end", 0), ("peek", 1, 1), ("picture", None), ("end", ()),
    ["take", 0], ["picture"], "picture", "end", {"take": 0}, ({"take": 0}, 0), (["take"], 0), nested(99),
    ("take", 0) * 1000, ("press",) + (0,) * 10000,
)

# All steps in their form, whether they can be done or not.
STEPS = [("change", place) for place in (0, 1, 2)]
STEPS += [(word, lane) for word in ("take", "slip", "mark", "fall") for lane in (0, 1)]
STEPS += [(word, lane, index) for word in ("press", "wipe") for lane in (0, 1) for index in range(1000)]
STEPS += [("picture",), ("look", 1), ("look", 2), ("end",), ("peek", 1), ("peek", 2)]

# Values that are no wish at all.
NO_WISHES = NO_TUPLES + NO_INTEGERS + (
    "One", "one ", " on", "ones", "end", "theres", "over", "row", "onends", ("one",), ["one"], {"one": 1},
    ("one", "on"), WISHES, nested(100), [["on"]], "one\n")

LANES, FIRST, LAG, MARKS, SLIPS, PRESS, WIPE, PICTURE, PEEKS = range(9)

# The least ways of one lane and of two.
AHEAD = (1, 0, 1, 0, 0, 0, 0, 0, 0)
APART = (2, 0, 1, 0, 0, 0, 0, 0, 0)

MOST = (1, 1, 3, 2, 1, 1, 3, 2, 1)

EMPTY = ((), ())


def with_parts(way, parts):
    """Return the way with other parts, by their indices."""
    return tuple(parts.get(index, part) for index, part in enumerate(way))


def with_all_let(lanes, **parts):
    """Return the way with these lanes that lets most steps, but for the parts that are told."""
    names = ("lanes", "first", "lag", "marks", "slips", "press", "wipe", "picture", "peeks")
    way = dict(zip(names, (lanes, 0, 3, 2, 1, 1, 3, 1, 1)))
    way.update(parts)
    return tuple(way[name] for name in names)


def standing_of(place=0, now=0, lanes=(EMPTY, EMPTY), held=((), ()), phase=0, memory=(0, 0)):
    """Return a standing of two lanes, if nothing else is told."""
    return (place, now, lanes, held, phase, memory)


def with_other_stamps(standing, far):
    """Return the standing with other stamps in the same order; far gives them."""
    place, now, lanes, held, phase, memory = standing
    lanes = tuple(tuple(tuple((key, kind, far(s)) for key, kind, s in part) for part in lane) for lane in lanes)
    return (place, now and far(now), lanes, tuple(slot and (slot[0], far(slot[1])) for slot in held), phase, memory)


def each_part_by_itself(way):
    """Return the way, and all ways that differ from it in one part but for lanes."""
    ways = [way]
    for index in range(1, 9):
        for part in range(way[index] + 1, MOST[index] + 1):
            ways.append(with_parts(way, {index: part}))
    return ways


# Small ways, each part put by itself; behind them press and wipe with other parts, without which they do little.
# With a lag of 3 or marks of 2 two lanes have some thousand standings.
SMALL_WAYS = tuple(each_part_by_itself(AHEAD)) + tuple(
    way for way in each_part_by_itself(APART) if way[LAG] < 3 and way[MARKS] < 2) + (
    with_parts(AHEAD, {LAG: 2, PRESS: 1}),
    with_parts(AHEAD, {FIRST: 1, MARKS: 2, WIPE: 1}),
    with_parts(AHEAD, {MARKS: 1, PRESS: 1, WIPE: 2}),
    with_parts(APART, {MARKS: 1, WIPE: 3}),
)

# A few small ways of all kinds.
FEW_WAYS = (
    AHEAD,
    with_parts(AHEAD, {FIRST: 1, SLIPS: 1}),
    with_parts(AHEAD, {MARKS: 1, WIPE: 1}),
    with_parts(AHEAD, {LAG: 2, PRESS: 1}),
    with_parts(AHEAD, {PICTURE: 1}),
    APART,
    with_parts(APART, {MARKS: 1}),
    with_parts(APART, {SLIPS: 1, WIPE: 2}),
    with_parts(APART, {PEEKS: 1}),
    with_parts(APART, {PICTURE: 2}),
)


def own_rules(number):
    """Return a table of rules with all actions, another one for each number."""
    made = random.Random(number)
    return tuple(made.randrange(6) for _ in range(27))


def random_part(made, keys):
    """Return entries in any order, of these keys."""
    many = made.choice((0, 1, 1, 2, 4))
    return tuple((made.choice(keys), made.randrange(2), made.randrange(1, 6)) for _ in range(many))


def random_slot(made):
    """Return what may be held under a key."""
    return made.choice(((), (made.randrange(3), made.randrange(1, 6))))


def random_doubles(way, many):
    """Return double standings, with any stamps that are few, whether weavings lead to them or not."""
    made = random.Random(repr(way))
    found = []
    for _ in range(many):
        keys = ((1,), (2,)) if way[LANES] == 2 else ((1, 2),)
        lanes = tuple((random_part(made, key), random_part(made, key)) for key in keys)
        phase = made.choice((0, 0, 1, 2, 3, 4)) if way[PICTURE] else 0
        held, other = [(random_slot(made), random_slot(made)) for _ in range(2)]
        found.append((made.randrange(3), made.randrange(6), lanes, held, phase, other))
    return found


def random_standings(way, many):
    """Return standings of the form of point 21, whether weavings lead to them or not."""
    made = random.Random(repr(way))
    memories = [(made.randrange(2), made.randrange(7)) for _ in range(many)]
    return [plain_ranked(double[:5] + (memory,)) for double, memory in zip(random_doubles(way, many), memories)]


def ways_of_all_kinds():
    """Return some ways of all kinds, each value of each part among them."""
    made = random.Random(5)
    least = (1, 0, 1, 0, 0, 0, 0, 0, 0)
    return [tuple(made.randint(low, high + (index == 0)) for index, (low, high) in enumerate(zip(least, MOST)))
            for _ in range(60)]
