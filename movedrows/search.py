"""Searches: all states to which steps lead from a first one, by the least numbers of steps."""

from movedrows.errors import LimitExceeded

# The limit where a caller gives none.
LIMIT = 2000


def explored(first, followers, limit):
    """Return a dict from each state to (the state ahead, the step), from the first one to None.

    followers(state) is a list of (step, state after it). The states stand in the order of the least
    numbers of steps that lead to them. Raise LimitExceeded if there are more than limit.
    """
    origins = {first: None}
    level = [first]
    while level:
        later = []
        for state in level:
            for step, after in followers(state):
                if after not in origins:
                    origins[after] = (state, step)
                    later.append(after)
            # All states count, also those that come after an answer: so none is left out.
            if len(origins) > limit:
                raise LimitExceeded(limit)
        level = later
    return origins


def weaving_in(origins, state):
    """Return a shortest weaving to the state."""
    steps = []
    origin = origins[state]
    while origin is not None:
        ahead, step = origin
        steps.append(step)
        origin = origins[ahead]
    return tuple(steps[::-1])


def step_counts(origins):
    """Return a dict from each state to the least number of steps that lead to it."""
    counts = {}
    for state, origin in origins.items():
        # Each state stands after the one that leads to it, which so has its number already.
        counts[state] = 0 if origin is None else counts[origin[0]] + 1
    return counts
