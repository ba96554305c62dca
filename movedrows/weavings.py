"""Weavings: steps that are done one after another, from the first standing on."""

from movedrows.errors import CannotStep
from movedrows.standings import first_standing, showing
from movedrows.steps import can_do, stepped


def standings_along(way, rules, weaving):
    """Return a list of the standings from the first one on, one more than the weaving has steps."""
    standing = first_standing(way)
    along = [standing]
    for index, step in enumerate(weaving):
        if not can_do(way, standing, step):
            raise CannotStep(index)
        standing = stepped(way, rules, standing, step)
        along.append(standing)
    return along


def walked(way, rules, weaving):
    """Return the standing after the weaving; raise CannotStep with the index of the first wrong step."""
    return standings_along(way, rules, weaving)[-1]


def log_of(way, rules, weaving):
    """Return the log of the weaving; raise CannotStep with the index of the first wrong step."""
    log = []
    for standing in standings_along(way, rules, weaving):
        told = showing(standing)
        if log == [] or log[-1] != told:
            log.append(told)
    return tuple(log)


def history_of(weaving):
    """Return the places of the changes of the weaving."""
    return tuple([step[1] for step in weaving if step[0] == "change"])
