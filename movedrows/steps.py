"""Steps: which ones can be done in a standing, and what they do."""

from movedrows.entries import ABSENCE, ROW, STRIKE, is_change
from movedrows.errors import CannotStep
from movedrows.rules import laid
from movedrows.standings import EMPTY_LANE, HELD, LANE_PARTS, MEMORY, NO_PICTURE, fresh_stamp, ranked, stamps_of
from movedrows.ways import LAG, MARKS, PEEKS, PICTURE, PRESS, SLIPS, WIPE, lane_of, told_in_order

PLACES = (0, 1, 2)
KEYS = (1, 2)

# The phases of a picture: it has begun, one key was looked at (the key and 1), both were.
BEGUN = 1
LOOKED = 4

# What the parts wipe and picture of a way let, by their values.
WIPE_FIRST = 2
WIPE_ANY = 3
MARKS_BEHIND = 2


def entries_told(way, standing, later, stamp):
    """Return the entries of a change to the later place with the stamp, in the order in which they go into lanes."""
    place, _, _, _, phase, _ = standing
    if phase != NO_PICTURE and way[PICTURE] == MARKS_BEHIND:
        return ()
    return told_in_order(way, place, later, stamp)


def lanes_with(way, lanes, entries):
    """Return the lanes with more entries at their ends; whatever stands behind its key in an entry stays as it is."""
    told = []
    for lane, (again, untaken) in enumerate(lanes):
        told.append((again, untaken + tuple([entry for entry in entries if lane_of(way, entry[0]) == lane])))
    return tuple(told)


def lanes_told(way, standing, later, stamp):
    """Return the lanes after a change to the later place with the stamp."""
    return lanes_with(way, standing[LANE_PARTS], entries_told(way, standing, later, stamp))


def can_change(way, standing, later):
    """Return whether the change to the later place can be done."""
    if not is_change(standing[0], later):
        return False
    # No entry of a lane has the stamp 0, so that it counts as one more, as the new stamp will.
    for _, untaken in lanes_told(way, standing, later, 0):
        if len({stamp for _, _, stamp in untaken}) > way[LAG]:
            return False
    return True


def can_take(way, phase, again, untaken):
    """Return whether the first untaken entry of a lane can be taken."""
    return phase == NO_PICTURE and untaken != () and (way[MARKS] == 0 or len(again) < way[MARKS])


def can_slip(way, phase, untaken):
    """Return whether the first untaken entry of a lane can be slipped."""
    return way[SLIPS] == 1 and phase == NO_PICTURE and untaken != ()


def has_key(entries, key):
    """Return whether one of the entries has the key."""
    return any([entry[0] == key for entry in entries])


def can_press(way, entries, index):
    """Return whether the entry at the index can be pressed out of the entries of a lane."""
    return way[PRESS] == 1 and has_key(entries[index + 1:], entries[index][0])


def can_wipe(way, again, entries, index):
    """Return whether the entry at the index can be wiped out of the entries of a lane."""
    key, kind, _ = entries[index]
    if kind != STRIKE or way[WIPE] == 0:
        return False
    if way[WIPE] == WIPE_ANY:
        return True
    if has_key(entries[:index], key):
        return False
    return way[WIPE] == WIPE_FIRST or index < len(again)


def can_look(phase, key):
    """Return whether the key can be looked at in the phase of a picture."""
    return phase in (BEGUN, 4 - key)


def lane_steps(way, standing):
    """Return a list of the steps with a lane alone that can be done, by the order of their words."""
    _, _, lanes, _, phase, _ = standing
    parts = list(enumerate(lanes))
    takes = [("take", lane) for lane, (again, untaken) in parts if can_take(way, phase, again, untaken)]
    slips = [("slip", lane) for lane, (_, untaken) in parts if can_slip(way, phase, untaken)]
    marks = [("mark", lane) for lane, (again, _) in parts if again != ()]
    falls = [("fall", lane) for lane, (again, _) in parts if again != ()]
    return takes + slips + marks + falls


def index_steps(way, lanes):
    """Return a list of the steps with a lane and an index that can be done, by the order of their words."""
    presses = []
    wipes = []
    for lane, (again, untaken) in enumerate(lanes):
        entries = again + untaken
        for index in range(len(entries)):
            if can_press(way, entries, index):
                presses.append(("press", lane, index))
            if can_wipe(way, again, entries, index):
                wipes.append(("wipe", lane, index))
    return presses + wipes


def picture_steps(way, phase):
    """Return a list of the steps of pictures and peeks that can be done, by the order of their words."""
    pictures = [("picture",)] if way[PICTURE] != 0 and phase == NO_PICTURE else []
    looks = [("look", key) for key in KEYS if can_look(phase, key)]
    ends = [("end",)] if phase == LOOKED else []
    peeks = [("peek", key) for key in KEYS if way[PEEKS] == 1 and phase == NO_PICTURE]
    return pictures + looks + ends + peeks


def steps_from(way, standing):
    """Return the tuple of all steps that can be done in the standing, by their words and then as tuples."""
    _, _, lanes, _, phase, _ = standing
    changes = [("change", later) for later in PLACES if can_change(way, standing, later)]
    return tuple(changes + lane_steps(way, standing) + index_steps(way, lanes) + picture_steps(way, phase))


def can_do(way, standing, step):
    """Return whether any value is a step that can be done in the standing."""
    # True and False are equal to integers for Python, but they are no places, lanes, keys or indices.
    return step in steps_from(way, standing) and not any([isinstance(part, bool) for part in step])


def part_behind(way, part, step):
    """Return again and untaken of a lane, after a step that concerns this lane alone; entries stay as they are."""
    again, untaken = part
    word = step[0]
    if word == "take":
        return (again + untaken[:1] if way[MARKS] != 0 else again, untaken[1:])
    if word == "slip":
        return ((), untaken[1:])
    if word == "mark":
        return ((), untaken)
    if word == "fall":
        return ((), again + untaken)
    index = step[2]
    if index < len(again):
        return (again[:index] + again[index + 1:], untaken)
    index = index - len(again)
    return (again, untaken[:index] + untaken[index + 1:])


def lanes_behind(way, lanes, step):
    """Return the lanes after a step that concerns one of them alone."""
    lane = step[1]
    return lanes[:lane] + (part_behind(way, lanes[lane], step),) + lanes[lane + 1:]


def moved(way, standing, step, stamp):
    """Return (place, now, lanes, phase) after a step that can be done; stamp is that of a change."""
    place, now, lanes, _, phase, _ = standing
    word = step[0]
    if word == "change":
        return (step[1], stamp, lanes_told(way, standing, step[1], stamp), phase)
    if word == "picture":
        return (place, now, (EMPTY_LANE,) * len(lanes), BEGUN)
    if word == "look":
        return (place, now, lanes, step[1] + 1 if phase == BEGUN else LOOKED)
    if word == "end":
        return (place, now, lanes, NO_PICTURE)
    if word == "peek":
        return (place, now, lanes, phase)
    return (place, now, lanes_behind(way, lanes, step), phase)


def asking_entry(standing, step):
    """Return the entry with which a step that can be done asks a rule, or None if it asks none."""
    place, now, lanes, _, _, _ = standing
    word = step[0]
    if word == "take":
        return lanes[step[1]][1][0]
    if word in ("look", "peek") and now != 0:
        return (step[1], ROW if place == step[1] else ABSENCE, now)
    return None


def held_behind(rules, held, entry):
    """Return the holdings after the entry, which is None if no rule is asked."""
    return held if entry is None else laid(rules, held, entry)


def stepped(way, rules, standing, step):
    """Return the standing after a step that can be done, with ranks."""
    place, now, lanes, phase = moved(way, standing, step, fresh_stamp(stamps_of(standing)))
    held = held_behind(rules, standing[HELD], asking_entry(standing, step))
    return ranked((place, now, lanes, held, phase, standing[MEMORY]))


def behind_step(way, rules, standing, step):
    """Return the standing after any value that is a step, with ranks; raise CannotStep if it cannot be done."""
    if not can_do(way, standing, step):
        raise CannotStep(None)
    return stepped(way, rules, standing, step)
