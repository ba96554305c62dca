"""Histories of a row, and the entries that their changes tell."""

from movedrows.errors import InvalidHistory
from movedrows.parts import is_between

NOWHERE = 0
STRIKE = 0
ROW = 1
ABSENCE = 2
MOST_CHANGES = 1000


def is_change(place, later):
    """Return whether a row can change from the place to the later one."""
    return place != NOWHERE or later != NOWHERE


def require_history(value):
    """Return any value that is a history; raise InvalidHistory for any other one."""
    if not isinstance(value, tuple) or len(value) > MOST_CHANGES:
        raise InvalidHistory(None)
    ahead = NOWHERE
    for index, place in enumerate(value):
        if not is_between(place, 0, 2) or not is_change(ahead, place):
            raise InvalidHistory(index)
        ahead = place
    return value


def told_entries(place, later, stamp):
    """Return the entries of the change from the place to the later one, the strike first."""
    strike = ((place, STRIKE, stamp),) if place != NOWHERE and place != later else ()
    row = ((later, ROW, stamp),) if later != NOWHERE else ()
    return strike + row


def changes_of(history):
    """Return a list of (place, later place, stamp) for each change of the history."""
    ahead = (NOWHERE,) + history
    return [(place, later, stamp) for stamp, (place, later) in enumerate(zip(ahead, history), start=1)]


def entries_of(history):
    """Return the entries of all changes in turn, the strike first in each."""
    return tuple([entry for change in changes_of(history) for entry in told_entries(*change)])


def is_elder(one, other):
    """Return whether the first entry is elder than the other one."""
    _, kind, stamp = one
    _, other_kind, other_stamp = other
    return (stamp, kind) < (other_stamp, other_kind)
