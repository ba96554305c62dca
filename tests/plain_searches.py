"""More of the document told a second time: asked rules, logs, mends and trials, by plain searches."""

import itertools

from plain import Row, first_of, plain_asked, plain_behind, plain_broken, plain_keeps, plain_remembered
from plain import plain_standings, plain_standings_for, plain_steps, search

NO_ACTIONS = (None,) * 27


def plain_counts(way, rules):
    """Return a dict from each asked index to the least number of steps of a weaving that ends with asking it."""
    counts = {}
    for standing, count in plain_standings(way, rules).items():
        for step in plain_steps(way, standing):
            index = plain_asked(way, rules, standing, step)
            if index is not None:
                counts[index] = min(count + 1, counts.get(index, count + 1))
    return counts


def plain_showing(way, standing):
    """Return what is shown."""
    return {(): 0, (1,): 1, (2,): 2, (1, 2): 3}[tuple(key for key, _ in Row(way, standing).shown())]


def plain_after_trace(way, rules, log, trace):
    """Return a list of (step, trace) of all steps from a trace that lead to one."""
    many, standing = trace
    found = []
    for step in plain_steps(way, standing):
        after = plain_behind(way, rules, standing, step)
        shown = plain_showing(way, after)
        if shown == log[many - 1]:
            found.append((step, (many, after)))
        if many < len(log) and shown == log[many]:
            found.append((step, (many + 1, after)))
    return found


def plain_traces(way, rules, log):
    """Return a dict from each trace to the least number of steps to it."""
    return search((1, first_of(way)), lambda trace: [
        after for _, after in plain_after_trace(way, rules, log, trace)])


def plain_choices(options):
    """Return a list of all choices in their order."""
    found = []
    for many in range(4):
        for choice in itertools.permutations(range(len(options)), many):
            whats = [options[index][0] for index in choice]
            if list(choice) == sorted(choice) and all(whats.count(what) == 1 for what in whats):
                found.append((sum(options[index][2] for index in choice), choice))
    return [choice for _, choice in sorted(found)]


def put(parts, others):
    """Return the tuple with other parts, by their indices."""
    return tuple(others.get(index, part) for index, part in enumerate(parts))


def plain_with(way, rules, options, choice):
    """Return the way and the rules with all options of the choice."""
    parts = {options[index][0]: options[index][1] for index in choice}
    return put(way, parts), put(rules, {what - 9: value for what, value in parts.items() if what >= 9})


def plain_mend(way, rules, wishes, options):
    """Return the first choice that mends, or None."""
    for choice in plain_choices(options):
        with_it, rules_with_it = plain_with(way, rules, options, choice)
        if all(plain_keeps(with_it, rules_with_it, word) for word in wishes):
            return choice
    return None


def plain_mend_counts(way, rules, wishes, options):
    """Return a dict from each choice, in their order, to the greatest number of its standings for any of the wishes."""
    counts = {}
    for choice in plain_choices(options):
        with_it, rules_with_it = plain_with(way, rules, options, choice)
        counts[choice] = max(len(plain_standings_for(with_it, rules_with_it, word)) for word in wishes)
    return counts


def asked_of(way, table, standing, step):
    """Return the index that the step asks, or None; what the table does there does not matter."""
    return plain_asked(way, tuple(action or 0 for action in table), standing, step)


def lets(way, table, standing, step):
    """Return whether the step asks no index without an action."""
    index = asked_of(way, table, standing, step)
    return index is None or table[index] is not None


def plain_standings_by(way, table):
    """Return a dict from each standing of the partial table to the least number of steps to it."""
    return search(first_of(way), lambda standing: [
        plain_behind(way, table, standing, step) for step in plain_steps(way, standing)
        if lets(way, table, standing, step)])


def plain_standings_by_for(way, table, word):
    """Return the same with the memory of the wish."""
    return search(first_of(way), lambda standing: [
        plain_remembered(way, table, word, standing, step) for step in plain_steps(way, standing)
        if lets(way, table, standing, step)])


def plain_open(way, table):
    """Return the least open index, or None."""
    found = set()
    for standing in plain_standings_by(way, table):
        for step in plain_steps(way, standing):
            if not lets(way, table, standing, step):
                found.add(asked_of(way, table, standing, step))
    return min(found, default=None)


def plain_break(way, table, word):
    """Return the least number of steps of a weaving of the partial table that breaks the wish, or None."""
    found = plain_standings_by_for(way, table, word)
    return min((count for standing, count in found.items() if plain_broken(way, word, standing)), default=None)


class Trial:
    """A trial told plainly: what it comes to, how many tables it tries, how many standings these have at most."""

    def __init__(self, way, wishes):
        self.way = way
        self.wishes = wishes
        self.tried = []
        self.counts = []
        self.table = self.grow(NO_ACTIONS)

    def grow(self, table):
        """Try the table and all that comes of it; return the rules to which this comes, or None."""
        self.tried.append(table)
        searches = [plain_standings_by_for(self.way, table, word) for word in self.wishes]
        self.counts.append(max(map(len, searches + [plain_standings_by(self.way, table)])))
        for word, found in zip(self.wishes, searches):
            if any(plain_broken(self.way, word, standing) for standing in found):
                return None
        index = plain_open(self.way, table)
        if index is None:
            return tuple(0 if action is None else action for action in table)
        for action in range(6):
            rules = self.grow(put(table, {index: action}))
            if rules is not None:
                return rules
        return None
