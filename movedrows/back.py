"""Ways back: how far a reader is from showing what is so, by the weights of its own steps."""

from heapq import heappop, heappush

from movedrows.errors import InvalidWeights
from movedrows.parts import is_between
from movedrows.reach import reached
from movedrows.search import LIMIT
from movedrows.standings import is_quiet, is_true, ranked
from movedrows.steps import stepped, steps_from

WEIGHTS = 8
GREATEST_WEIGHT = 10 ** 30

# The indices of the weights of the reader's steps, by their words; for takes and marks that of lane 0.
WEIGHT_INDICES = {"take": 0, "mark": 2, "picture": 4, "look": 5, "end": 6, "peek": 7}
LANE_WORDS = ("take", "mark")


def require_weights(value):
    """Return any value that is a tuple of weights; raise InvalidWeights for any other one."""
    if not isinstance(value, tuple) or len(value) != WEIGHTS:
        raise InvalidWeights(None)
    for index, weight in enumerate(value):
        if not is_between(weight, 0, GREATEST_WEIGHT):
            raise InvalidWeights(index)
    return value


def is_right(standing):
    """Return whether the reader has taken all and shows just what is so."""
    return is_quiet(standing) and is_true(standing)


def readers_steps(way, standing):
    """Return the tuple of the reader's own steps that can be done, by the order of their words."""
    return tuple([step for step in steps_from(way, standing) if step[0] in WEIGHT_INDICES])


def weight_of(weights, step):
    """Return the weight of a reader's step."""
    index = WEIGHT_INDICES[step[0]]
    if step[0] in LANE_WORDS:
        index = index + step[1]
    return weights[index]


def readers_followers(way, rules, weights, standing):
    """Return a list of (step, its weight, standing after it) for all reader's steps that can be done."""
    steps = readers_steps(way, standing)
    return [(step, weight_of(weights, step), stepped(way, rules, standing, step)) for step in steps]


def steps_into(way, rules, weights, known):
    """Return a dict from each known standing to a list of the reader's (weight, standing ahead, step) into it."""
    into = {standing: [] for standing in known}
    for standing in known:
        for step, weight, after in readers_followers(way, rules, weights, standing):
            into[after].append((weight, standing, step))
    return into


def nearest_steps(into):
    """Return a dict from each standing with a way back to (its weight, the first step of one).

    Each such step leads to a standing that has its way back already: so none comes twice on the way,
    also where steps weigh nothing.
    """
    nearest = {}
    queue = []
    for standing in into:
        if is_right(standing):
            heappush(queue, (0, standing, ()))
    while queue:
        weight, standing, step = heappop(queue)
        if standing not in nearest:
            nearest[standing] = (weight, step)
            for more, ahead, earlier in into[standing]:
                heappush(queue, (weight + more, ahead, earlier))
    return nearest


def ways_back(way, rules, weights, known):
    """Return nearest_steps for all known standings of the way and rules."""
    return nearest_steps(steps_into(way, rules, weights, known))


def way_back_of(way, rules, weights, standing, *, limit=LIMIT):
    """Return the least weight of reader's steps from the standing to a right one, or None."""
    nearest = ways_back(way, rules, weights, reached(way, rules, limit))
    at = ranked(standing)
    return nearest[at][0] if at in nearest else None


def back_from(way, rules, weights, standing, *, limit=LIMIT):
    """Return reader's steps from the standing to a right one with the least weight, or None."""
    nearest = ways_back(way, rules, weights, reached(way, rules, limit))
    at = ranked(standing)
    if at not in nearest:
        return None
    steps = []
    while not is_right(at):
        _, step = nearest[at]
        steps.append(step)
        at = stepped(way, rules, at, step)
    return tuple(steps)


def farthest(way, rules, weights, *, limit=LIMIT):
    """Return the greatest way back of all standings, or None if one of them has none."""
    known = reached(way, rules, limit)
    nearest = ways_back(way, rules, weights, known)
    if len(nearest) < len(known):
        return None
    return max([weight for weight, _ in nearest.values()])
