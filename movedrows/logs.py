"""Logs: what a reader showed, one showing after another, and whether it can come about."""

from movedrows.errors import InvalidLog
from movedrows.parts import is_between
from movedrows.search import LIMIT, explored, weaving_in
from movedrows.standings import first_standing, showing
from movedrows.steps import stepped, steps_from

MOST_SHOWINGS = 8
GREATEST_SHOWING = 3


def require_log(value):
    """Return any value that is a log; raise InvalidLog for any other one."""
    if not isinstance(value, tuple) or not 1 <= len(value) <= MOST_SHOWINGS:
        raise InvalidLog(None)
    for index, shown in enumerate(value):
        if not is_between(shown, 0, GREATEST_SHOWING):
            raise InvalidLog(index)
        if (index == 0 and shown != 0) or (index > 0 and shown == value[index - 1]):
            raise InvalidLog(index)
    return value


def first_trace(way):
    """Return the trace ahead of all steps."""
    return (1, first_standing(way))


def trace_followers(way, rules, log, trace):
    """Return a list of (step, trace after it) for all steps that can be done and lead to a trace of the log."""
    many, standing = trace
    found = []
    for step in steps_from(way, standing):
        after = stepped(way, rules, standing, step)
        shown = showing(after)
        if shown == log[many - 1]:
            found.append((step, (many, after)))
        elif many < len(log) and shown == log[many]:
            found.append((step, (many + 1, after)))
    return found


def traced(way, rules, log, limit):
    """Return the search of all traces of the log."""
    return explored(first_trace(way), lambda trace: trace_followers(way, rules, log, trace), limit)


def explaining_in(log, origins):
    """Return a shortest weaving of the search of traces that has the whole log, or None."""
    for trace in origins:
        if trace[0] == len(log):
            return weaving_in(origins, trace)
    return None


def traces(way, rules, log, *, limit=LIMIT):
    """Return the strictly ascending tuple of all traces of the log."""
    return tuple(sorted(traced(way, rules, log, limit)))


def explained(way, rules, log, *, limit=LIMIT):
    """Return a shortest weaving with this log, or None."""
    return explaining_in(log, traced(way, rules, log, limit))
