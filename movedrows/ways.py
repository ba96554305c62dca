"""Ways: into which lanes entries go, and what may happen to them there."""

from movedrows.entries import changes_of, told_entries
from movedrows.errors import InvalidWay
from movedrows.parts import is_between

# The parts of a way, by their indices.
LANES = 0
FIRST = 1
LAG = 2
MARKS = 3
SLIPS = 4
PRESS = 5
WIPE = 6
PICTURE = 7
PEEKS = 8
WAY_PARTS = 9

# The least and the greatest value of each part.
RANGES = ((1, 2), (0, 1), (1, 3), (0, 2), (0, 1), (0, 1), (0, 3), (0, 2), (0, 1))


def require_way(value):
    """Return any value that is a way; raise InvalidWay for any other one."""
    if not isinstance(value, tuple) or len(value) != WAY_PARTS:
        raise InvalidWay(None)
    for index, (least, greatest) in enumerate(RANGES):
        if not is_between(value[index], least, greatest):
            raise InvalidWay(index)
    return value


def is_way_within(way, other):
    """Return whether the way is within the other one."""
    if way[LANES] != other[LANES] or way[FIRST] != other[FIRST]:
        return False
    for part in (LAG, MARKS, SLIPS, PRESS, WIPE, PEEKS):
        if way[part] > other[part]:
            return False
    # The two pictures are of different sorts: neither has what the other one does.
    return way[PICTURE] in (0, other[PICTURE])


def way_with(way, part, value):
    """Return the way with another value of the part."""
    return way[:part] + (value,) + way[part + 1:]


def lane_of(way, key):
    """Return the index of the lane into which the entries of the key go."""
    return key - 1 if way[LANES] == 2 else 0


def told_in_order(way, place, later, stamp):
    """Return the entries of a change in the order in which they go into the lanes."""
    entries = told_entries(place, later, stamp)
    return entries[::-1] if way[FIRST] == 1 else entries


def lanes_of(way, history):
    """Return the entries of each lane after the history, in their order."""
    entries = [entry for change in changes_of(history) for entry in told_in_order(way, *change)]
    lanes = []
    for lane in range(way[LANES]):
        lanes.append(tuple([entry for entry in entries if lane_of(way, entry[0]) == lane]))
    return tuple(lanes)
