"""Standings: where a row stands, what its lanes have, and what the reader holds and shows of it."""

from movedrows.entries import NOWHERE, ROW
from movedrows.ways import LANES

# The parts of a standing, by their indices.
LANE_PARTS = 2
HELD = 3
MEMORY = 5

# What a standing has of its last two parts without a picture and without a wish.
NO_PICTURE = 0
NO_MEMORY = (0, 0)

EMPTY_LANE = ((), ())
NOTHING_HELD = ((), ())


def first_standing(way):
    """Return the standing ahead of all steps."""
    return (NOWHERE, 0, (EMPTY_LANE,) * way[LANES], NOTHING_HELD, NO_PICTURE, NO_MEMORY)


def stamps_in(now, lanes, slots):
    """Return a list of the stamps in now, in the lanes and in the slots, which are what keys hold."""
    told = [stamp for again, untaken in lanes for _, _, stamp in again + untaken]
    return [now] + told + [slot[1] for slot in slots if slot != ()]


def stamps_of(standing):
    """Return a list of all stamps in the standing, that of the memory among them."""
    _, now, lanes, held, _, memory = standing
    return stamps_in(now, lanes, held) + [memory[1]]


def fresh_stamp(stamps):
    """Return the stamp of a change that comes after all these stamps."""
    return max(stamps) + 1


def ranks_of(stamps):
    """Return a dict from each of the stamps to its rank."""
    # 0 says that there was no change: it stands in for a stamp, but is not ranked among them.
    ranks = {0: 0}
    for rank, stamp in enumerate(sorted({each for each in stamps if each > 0}), start=1):
        ranks[stamp] = rank
    return ranks


def ranked_entries(ranks, entries):
    """Return the entries with ranks in the place of their stamps."""
    return tuple([(key, kind, ranks[stamp]) for key, kind, stamp in entries])


def ranked_lanes(ranks, lanes):
    """Return the lanes with ranks in the place of their stamps."""
    return tuple([(ranked_entries(ranks, again), ranked_entries(ranks, untaken)) for again, untaken in lanes])


def ranked_slots(ranks, slots):
    """Return what keys hold, with ranks in the place of the stamps."""
    return tuple([(slot[0], ranks[slot[1]]) if slot != () else () for slot in slots])


def ranked(standing):
    """Return the standing with ranks in the place of its stamps, whatever these are."""
    place, now, lanes, held, phase, memory = standing
    ranks = ranks_of(stamps_of(standing))
    lanes = ranked_lanes(ranks, lanes)
    held = ranked_slots(ranks, held)
    return (place, ranks[now], lanes, held, phase, (memory[0], ranks[memory[1]]))


def rows_in(held):
    """Return the ascending tuple of (key, stamp) of the rows in the holdings."""
    return tuple([(key, slot[1]) for key, slot in enumerate(held, start=1) if slot != () and slot[0] == ROW])


def shown_rows(standing):
    """Return the ascending tuple of (key, stamp) of the rows that are shown."""
    return rows_in(standing[HELD])


def showing(standing):
    """Return 0 if no row is shown, 3 if two are, else the key of the one that is."""
    # The keys are 1 and 2, so that no other rows have these sums.
    return sum([key for key, _ in shown_rows(standing)])


def is_true(standing):
    """Return whether what is shown is just what is so: the row under its place with the stamp now, or nothing."""
    place, now, _, _, _, _ = standing
    if place == NOWHERE:
        return shown_rows(standing) == ()
    return shown_rows(standing) == ((place, now),)


def is_quiet(standing):
    """Return whether no picture is being taken and no entry is untaken."""
    _, _, lanes, _, phase, _ = standing
    return phase == NO_PICTURE and all([untaken == () for _, untaken in lanes])
