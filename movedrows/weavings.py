"""Weavings: steps that are done one after another, from the first standing on."""

from movedrows.errors import CannotStep
from movedrows.standings import first_standing, showing
from movedrows.steps import can_do, stepped


def states_along(way, first, behind, weaving):
    """Return a list of the states from the first one on, one more than the weaving has steps.

    A state is a standing, or a double one; behind(state, step) is the state after a step that can be done.
    Raise CannotStep with the index of the first wrong step.
    """
    along = [first]
    for index, step in enumerate(weaving):
        if not can_do(way, along[-1], step):
            raise CannotStep(index)
        along.append(behind(along[-1], step))
    return along


def standings_along(way, rules, weaving):
    """Return a list of the standings from the first one on, one more than the weaving has steps."""
    return states_along(way, first_standing(way), lambda ahead, step: stepped(way, rules, ahead, step), weaving)


def walked(way, rules, weaving):
    """Return the standing after the weaving; raise CannotStep with the index of the first wrong step."""
    return standings_along(way, rules, weaving)[-1]


def log_of(way, rules, weaving):
    """Return the log of the weaving; raise CannotStep with the index of the first wrong step."""
    log = []
    for standing in standings_along(way, rules, weaving):
        told = showing(standing)
        if log == [] or log[-1] != told:
            log.append(told)
    return tuple(log)


def history_of(weaving):
    """Return the places of the changes of the weaving."""
    return tuple([step[1] for step in weaving if step[0] == "change"])
