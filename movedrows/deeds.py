"""Deeds: what is done in a house, where all rows share the lanes and the pictures.

A crowd is what a house holds: a pair (rows, lanes). A row of it is a tuple (place, now, held, phase); the lanes
have entries (key, kind, stamp, row), row being the index of the row. Its stamps are those of its own changes.
Here a deed tells rows by their indices. It is done to a row as a step of its own: so no row among many does what
a row alone cannot do.
"""

from movedrows.asked import asked_index
from movedrows.entries import NOWHERE
from movedrows.errors import CannotStep
from movedrows.parts import is_between
from movedrows.standings import EMPTY_LANE, HELD, NO_MEMORY, NO_PICTURE, NOTHING_HELD
from movedrows.steps import asking_entry, can_do, entries_told, held_behind, lanes_behind, lanes_with, moved
from movedrows.ways import LANES

# The deeds that name a row, those that concern all rows, and those that concern a lane as a whole.
ROW_WORDS = ("change", "look", "peek")
CROWD_WORDS = ("picture", "end")
AGAIN_WORDS = ("mark", "fall")

# Where an entry of a crowd has the index of its row.
ROW_INDEX = 3


def first_crowd(way, many):
    """Return the crowd of so many rows ahead of all deeds."""
    return (((NOWHERE, 0, NOTHING_HELD, NO_PICTURE),) * many, (EMPTY_LANE,) * way[LANES])


def own_entries(entries, row):
    """Return the entries of the row alone."""
    return tuple([entry[:ROW_INDEX] for entry in entries if entry[ROW_INDEX] == row])


def own_standing(crowd, row):
    """Return the standing of the row, with its own parts of the lanes and with its own stamps."""
    rows, lanes = crowd
    place, now, held, phase = rows[row]
    parts = tuple([(own_entries(again, row), own_entries(untaken, row)) for again, untaken in lanes])
    return (place, now, parts, held, phase, NO_MEMORY)


def rows_of(entries):
    """Return the ascending list of the indices of the rows that the entries are of."""
    return sorted({entry[ROW_INDEX] for entry in entries})


def slip_steps(lane, again, untaken):
    """Return a list of (row, step) of what a slip does to each row; nothing if no entry is untaken."""
    if untaken == ():
        return []
    owner = untaken[0][ROW_INDEX]
    # The marks that are put ahead of the slipped entry concern the entries of all rows.
    return [(owner, ("slip", lane))] + [(row, ("mark", lane)) for row in rows_of(again) if row != owner]


def entry_steps(word, lane, entries, index):
    """Return a list of (row, step) of what a press or wipe at the index of the lane does; nothing if it is none."""
    if not is_between(index, 0, len(entries) - 1):
        return []
    owner = entries[index][ROW_INDEX]
    return [(owner, (word, lane, len(own_entries(entries[:index], owner))))]


def lane_deed_steps(crowd, deed):
    """Return a list of (row, step) of what a deed that concerns a lane does to each row; nothing if it is none."""
    _, lanes = crowd
    word, lane = deed[:2]
    if not is_between(lane, 0, len(lanes) - 1):
        return []
    again, untaken = lanes[lane]
    if word == "take":
        return [(row, deed) for row in rows_of(untaken[:1])]
    if word == "slip":
        return slip_steps(lane, again, untaken)
    if word in AGAIN_WORDS:
        return [(row, deed) for row in rows_of(again)]
    return entry_steps(word, lane, again + untaken, deed[2])


def deed_steps(crowd, deed):
    """Return a list of (row, step) of what the deed does to each row whose part it changes."""
    rows, _ = crowd
    if deed[0] in ROW_WORDS:
        word, row, part = deed
        return [(row, (word, part))]
    if deed[0] in CROWD_WORDS:
        return [(row, deed) for row in range(len(rows))]
    return lane_deed_steps(crowd, deed)


def row_behind(way, rules, standing, step):
    """Return the row after a step that can be done in its standing, with its own stamps."""
    place, now, _, phase = moved(way, standing, step, standing[1] + 1)
    return (place, now, held_behind(rules, standing[HELD], asking_entry(standing, step)), phase)


def crowd_lanes_behind(way, crowd, deed):
    """Return the lanes after a deed that can be done."""
    _, lanes = crowd
    word = deed[0]
    if word == "change":
        _, row, later = deed
        standing = own_standing(crowd, row)
        told = entries_told(way, standing, later, standing[1] + 1)
        return lanes_with(way, lanes, [entry + (row,) for entry in told])
    if word == "picture":
        return (EMPTY_LANE,) * len(lanes)
    if word in ("look", "end", "peek"):
        return lanes
    return lanes_behind(way, lanes, deed)


def behind_deed(way, rules, crowd, deed):
    """Return the crowd after a deed of any values, its steps (row, step), and a list of the indices that it asks.

    Raise CannotStep if it cannot be done.
    """
    steps = deed_steps(crowd, deed)
    standings = {row: own_standing(crowd, row) for row, _ in steps}
    if steps == [] or not all([can_do(way, standings[row], step) for row, step in steps]):
        raise CannotStep(None)
    rows = list(crowd[0])
    asked = []
    for row, step in steps:
        rows[row] = row_behind(way, rules, standings[row], step)
        asked.append(asked_index(standings[row], step))
    behind = (tuple(rows), crowd_lanes_behind(way, crowd, deed))
    return (behind, steps, [index for index in asked if index is not None])
