"""The papers of certificates: for a valid claim, by a search within the limit, which verdict is right and why."""

from movedrows.alike import doubles_reached, parting_in
from movedrows.asked import asking_in
from movedrows.back import readers_followers, ways_back
from movedrows.logs import explaining_in, traced
from movedrows.mends import choice_cost, first_mend, searches_for
from movedrows.reach import reached
from movedrows.search import explored, step_counts, weaving_in
from movedrows.steps import stepped
from movedrows.trials import tree_of, trial
from movedrows.wishes import breaking_in, reached_for

SHOWN = "shown"
BROKEN = "broken"


def listed(origins):
    """Return the list of all that a search found: the strictly ascending tuple."""
    return tuple(sorted(origins))


def listed_all(searches):
    """Return a tuple of the lists of searches, each one beside its wish."""
    return tuple([listed(origins) for _, origins in searches])


def keeps_paper(claim, limit):
    """Return the verdict and the paper for a claim of keeps."""
    _, way, rules, word = claim
    origins = reached_for(way, rules, word, limit)
    weaving = breaking_in(word, origins)
    return (SHOWN, listed(origins)) if weaving is None else (BROKEN, weaving)


def soonest_paper(claim, limit):
    """Return the verdict and the paper for a claim of soonest."""
    _, way, rules, word, many = claim
    origins = reached_for(way, rules, word, limit)
    weaving = breaking_in(word, origins)
    standings = listed(origins)
    if weaving is None:
        return (SHOWN, standings) if many is None else (BROKEN, ("kept", standings))
    if many is None or len(weaving) < many:
        return (BROKEN, ("sooner", weaving))
    counts = step_counts(origins)
    levels = tuple([counts[standing] for standing in standings])
    if len(weaving) > many:
        return (BROKEN, ("later", standings, levels))
    return (SHOWN, (standings, levels, weaving))


def alike_paper(claim, limit):
    """Return the verdict and the paper for a claim of alike."""
    _, way, rules, others = claim
    origins = doubles_reached(way, rules, others, limit)
    weaving = parting_in(origins)
    return (SHOWN, listed(origins)) if weaving is None else (BROKEN, weaving)


def needless_paper(claim, limit):
    """Return the verdict and the paper for a claim of needless."""
    _, way, rules, index = claim
    origins = reached(way, rules, limit)
    weaving = asking_in(way, origins, index)
    return (SHOWN, listed(origins)) if weaving is None else (BROKEN, weaving)


def steps_back(way, rules, nearest):
    """Return a dict from each standing with a way back to the number of steps of it; nearest is as in ways_back."""
    counts = {}
    for standing, (_, step) in nearest.items():
        # A right standing has no step; from any other one it leads to one that stands ahead of it here.
        counts[standing] = 0 if step == () else counts[stepped(way, rules, standing, step)] + 1
    return counts


def readers_search(way, rules, weights, standing, limit):
    """Return the search of all standings to which reader's steps lead from the standing."""
    def followers(ahead):
        return [(step, after) for step, _, after in readers_followers(way, rules, weights, ahead)]
    return explored(standing, followers, limit)


def led_to(way, rules, weights, origins, standing):
    """Return a weaving to the standing, and the list of all standings to which reader's steps lead from it."""
    # Those are among the standings of the search: as many are enough.
    return (weaving_in(origins, standing), listed(readers_search(way, rules, weights, standing, len(origins))))


def never_paper(way, rules, weights, origins, nearest):
    """Return a weaving to a standing without a way back and a list that reader's steps do not leave from there."""
    lost = [standing for standing in origins if standing not in nearest]
    return led_to(way, rules, weights, origins, lost[0])


def less_paper(way, rules, nearest):
    """Return the list of all standings and their values: the weight and the steps of a way back."""
    counts = steps_back(way, rules, nearest)
    standings = listed(nearest)
    return (standings, tuple([(nearest[standing][0], counts[standing]) for standing in standings]))


def more_paper(way, rules, weights, origins, nearest, far):
    """Return a weaving to a standing whose way back weighs far, a list as in never_paper and its ways back."""
    ends = [standing for standing in origins if nearest[standing][0] == far]
    weaving, others = led_to(way, rules, weights, origins, ends[0])
    return (weaving, others, tuple([nearest[standing][0] for standing in others]))


def back_paper(claim, limit):
    """Return the verdict and the paper for a claim of back."""
    _, way, rules, weights, most = claim
    origins = reached(way, rules, limit)
    nearest = ways_back(way, rules, weights, origins)
    if len(nearest) < len(origins):
        never = never_paper(way, rules, weights, origins, nearest)
        return (SHOWN, never) if most is None else (BROKEN, ("never",) + never)
    far = max([weight for weight, _ in nearest.values()])
    less = less_paper(way, rules, nearest)
    if most is None or far < most:
        return (BROKEN, ("less",) + less)
    more = more_paper(way, rules, weights, origins, nearest, far)
    return (BROKEN, ("more",) + more) if far > most else (SHOWN, less + more)


def mendless_paper(options, most, breaks):
    """Return the verdict and the paper for a claim of mend where no choice of at most that cost mends."""
    if most is None:
        return (SHOWN, tuple([broken for _, broken in breaks]))
    return (BROKEN, ("more", tuple([broken for choice, broken in breaks if choice_cost(options, choice) <= most])))


def mend_paper(claim, limit):
    """Return the verdict and the paper for a claim of mend."""
    _, way, rules, wishes, options, most = claim
    choice, searches, breaks = first_mend(way, rules, wishes, options, limit)
    if choice is None:
        return mendless_paper(options, most, breaks)
    cost = choice_cost(options, choice)
    if most is None or cost < most:
        return (BROKEN, ("less", choice, listed_all(searches)))
    if cost > most:
        return mendless_paper(options, most, breaks)
    cheaper = [broken for other, broken in breaks if choice_cost(options, other) < cost]
    return (SHOWN, (choice, listed_all(searches), tuple(cheaper)))


def log_paper(claim, limit):
    """Return the verdict and the paper for a claim of log."""
    _, way, rules, log = claim
    origins = traced(way, rules, log, limit)
    weaving = explaining_in(log, origins)
    return (BROKEN, listed(origins)) if weaving is None else (SHOWN, weaving)


def none_paper(claim, limit, tables):
    """Return the verdict and the paper for a claim of none."""
    _, way, wishes = claim
    rules, found = trial(way, wishes, limit, tables)
    if rules is None:
        return (SHOWN, tree_of(found))
    return (BROKEN, (rules, listed_all(searches_for(way, rules, wishes, limit))))


# The papers of the claims that need no trial.
PAPERS = {
    "keeps": keeps_paper,
    "soonest": soonest_paper,
    "alike": alike_paper,
    "needless": needless_paper,
    "back": back_paper,
    "mend": mend_paper,
    "log": log_paper,
}


def paper_for(claim, limit, tables):
    """Return the verdict and the paper for a valid claim."""
    if claim[0] == "none":
        return none_paper(claim, limit, tables)
    made = PAPERS[claim[0]]
    return made(claim, limit)
