"""The faults of point 21 told a second time, for papers that have the form of a row for their claim."""

from plain import Row, first_of, plain_asked, plain_behind, plain_broken, plain_double_behind, plain_parted, plain_quiet
from plain import READERS_WORDS, plain_remembered, plain_steps, plain_true, plain_weight
from plain_searches import NO_ACTIONS, lets, plain_after_trace, plain_choices, plain_showing, put


def plain_first_fault(certificate):
    """Return the first fault of a certificate with a valid claim and a paper of the right form, or None."""
    verdict, claim, paper = certificate
    return next(FAULTS[claim[0]](verdict, paper, *claim[1:]), None)


def way_within(way, other):
    """Return whether the way is within the other one."""
    lanes, first, *rest, picture, peeks = way
    other_lanes, other_first, *other_rest, other_picture, other_peeks = other
    less = all(one <= two for one, two in zip(rest + [peeks], other_rest + [other_peeks]))
    return lanes == other_lanes and first == other_first and less and picture in (0, other_picture)


def closed(items, first, after_all):
    """Yield the faults of a list that should be closed; after_all(item) gives (step, item after it) in order."""
    known = set(items)
    if first not in known:
        yield ("start",)
    for k, item in enumerate(items):
        for step, after in after_all(item):
            if after not in known:
                yield ("open", k, step)


def closed_by_rules(way, rules, items):
    return closed(items, first_of(way), lambda standing: [
        (step, plain_behind(way, rules, standing, step)) for step in plain_steps(way, standing)])


def closed_by_wish(way, rules, word, items):
    return closed(items, first_of(way), lambda standing: [
        (step, plain_remembered(way, rules, word, standing, step)) for step in plain_steps(way, standing)])


def kept(way, rules, word, items):
    yield from closed_by_wish(way, rules, word, items)
    for k, standing in enumerate(items):
        if plain_broken(way, word, standing):
            yield ("wish", k)


def walk(way, weaving, behind, doubled=False):
    """Yield the fault of a weaving that cannot be walked; behind(standing, step) is the standing after a step."""
    standing = first_of(way, doubled)
    for t, step in enumerate(weaving):
        if step not in plain_steps(way, standing, doubled):
            yield ("step", t)
            return
        standing = behind(standing, step)


def end_of(way, weaving, behind, doubled=False):
    """Return the standing after a weaving that can be walked."""
    standing = first_of(way, doubled)
    for step in weaving:
        standing = behind(standing, step)
    return standing


def breaks(way, rules, word, weaving):
    def behind(standing, step):
        return plain_remembered(way, rules, word, standing, step)
    yield from walk(way, weaving, behind)
    if not plain_broken(way, word, end_of(way, weaving, behind)):
        yield ("wish",)


def keeps_faults(verdict, paper, way, rules, word):
    tag = paper[0] if paper and isinstance(paper[0], str) else None
    other, rest = paper[1:] if tag else (way, paper)
    if verdict == "shown":
        if not way_within(way, other):
            yield ("within",)
        yield from kept(other, rules, word, rest)
    else:
        if not way_within(other, way):
            yield ("within",)
        yield from breaks(other, rules, word, rest)


def level_faults(way, rules, word, n, items, levels):
    level_of = dict(zip(items, levels))
    for k, standing in enumerate(items):
        level = level_of[standing]
        afters = [plain_remembered(way, rules, word, standing, step) for step in plain_steps(way, standing)]
        if standing == first_of(way) and level != 0:
            yield ("level", k)
        if plain_broken(way, word, standing) and level < n:
            yield ("level", k)
        if any(level < level_of[after] - 1 for after in afters):
            yield ("level", k)


def soonest_faults(verdict, paper, way, rules, word, n):
    if verdict == "shown" and n is None:
        yield from kept(way, rules, word, paper)
    elif verdict == "shown":
        items, levels, weaving = paper
        yield from closed_by_wish(way, rules, word, items)
        yield from level_faults(way, rules, word, n, items, levels)
        yield from breaks(way, rules, word, weaving)
        if len(weaving) != n:
            yield ("length",)
    elif paper[0] == "kept":
        yield from kept(way, rules, word, paper[1])
    elif paper[0] == "sooner":
        yield from breaks(way, rules, word, paper[1])
        if n is not None and not len(paper[1]) < n:
            yield ("length",)
    else:
        yield from closed_by_wish(way, rules, word, paper[1])
        yield from level_faults(way, rules, word, n + 1, paper[1], paper[2])


def alike_faults(verdict, paper, way, rules, others):
    def behind(double, step):
        return plain_double_behind(way, rules, others, double, step)
    if verdict == "shown":
        yield from closed(paper, first_of(way, doubled=True), lambda double: [
            (step, behind(double, step)) for step in plain_steps(way, double, doubled=True)])
        for k, double in enumerate(paper):
            if plain_parted(way, double):
                yield ("differ", k)
    else:
        yield from walk(way, paper, behind, doubled=True)
        if not plain_parted(way, end_of(way, paper, behind, doubled=True)):
            yield ("same",)


def needless_faults(verdict, paper, way, rules, index):
    def behind(standing, step):
        return plain_behind(way, rules, standing, step)
    if verdict == "shown":
        yield from closed_by_rules(way, rules, paper)
        for k, standing in enumerate(paper):
            if index in [plain_asked(way, rules, standing, step) for step in plain_steps(way, standing)]:
                yield ("asks", k)
    else:
        yield from walk(way, paper, behind)
        if not paper or plain_asked(way, rules, end_of(way, paper[:-1], behind), paper[-1]) != index:
            yield ("asks",)


def is_right(way, standing):
    return plain_quiet(standing) and plain_true(standing, Row(way, standing))


def readers_afters(way, rules, standing):
    steps = [step for step in plain_steps(way, standing) if step[0] in READERS_WORDS]
    return [(step, plain_behind(way, rules, standing, step)) for step in steps]


def less_faults(way, rules, weights, fits, items, values):
    """Yield the faults of a list and its values; fits(v) tells whether a weight is small enough."""
    yield from closed_by_rules(way, rules, items)
    value_of = dict(zip(items, values))
    for k, standing in enumerate(items):
        v, l = value_of[standing]
        led = False
        for step, after in readers_afters(way, rules, standing):
            w, m = value_of[after]
            led = led or (w + plain_weight(weights, step) <= v and m < l)
        if not fits(v) or not (is_right(way, standing) or led):
            yield ("value", k)


def never_faults(way, rules, weaving, others, also_right=False):
    def behind(standing, step):
        return plain_behind(way, rules, standing, step)
    yield from walk(way, weaving, behind)
    if end_of(way, weaving, behind) not in others:
        yield ("lies",)
    for k, standing in enumerate(others):
        for step, after in readers_afters(way, rules, standing):
            if after not in others:
                yield ("leads", k, step)
    for k, standing in enumerate(others):
        if is_right(way, standing) and not also_right:
            yield ("right", k)


def more_faults(way, rules, weights, fits, weaving, others, bounds):
    """Yield the faults of a weaving, a list and its bounds; fits(bound) tells whether that of the end is right."""
    yield from never_faults(way, rules, weaving, others, also_right=True)
    bound_of = dict(zip(others, bounds))
    for k, standing in enumerate(others):
        if is_right(way, standing) and bound_of[standing] != 0:
            yield ("bound", k)
        for step, after in readers_afters(way, rules, standing):
            if bound_of[standing] > plain_weight(weights, step) + bound_of[after]:
                yield ("bound", k)
    end = end_of(way, weaving, lambda standing, step: plain_behind(way, rules, standing, step))
    if not fits(bound_of[end]):
        yield ("weight",)


def back_faults(verdict, paper, way, rules, weights, n):
    if verdict == "shown" and n is None:
        yield from never_faults(way, rules, *paper)
    elif verdict == "shown":
        yield from less_faults(way, rules, weights, lambda v: v <= n, *paper[:2])
        yield from more_faults(way, rules, weights, lambda bound: bound == n, *paper[2:])
    elif paper[0] == "less":
        yield from less_faults(way, rules, weights, lambda v: n is None or v < n, *paper[1:])
    elif paper[0] == "more":
        yield from more_faults(way, rules, weights, lambda bound: bound > n, *paper[1:])
    else:
        yield from never_faults(way, rules, *paper[1:])


def put_choice(way, rules, options, choice):
    """Return the way and rules with the choice."""
    parts = {options[index][0]: options[index][1] for index in choice}
    return put(way, parts), put(rules, {what - 9: value for what, value in parts.items()})


def lists_faults(way, rules, wishes, lists):
    for w, (word, items) in enumerate(zip(wishes, lists)):
        for fault in kept(way, rules, word, items):
            yield ("list", w, fault)


def breaks_faults(way, rules, options, fits, paper):
    """Yield the faults of breaks that are there for each choice whose cost fits."""
    chosen = [choice for choice in plain_choices(options) if fits(cost_of(options, choice))]
    if len(paper) != len(chosen):
        yield ("many",)
    for c, (choice, (word, weaving)) in enumerate(zip(chosen, paper)):
        for fault in breaks(*put_choice(way, rules, options, choice), word, weaving):
            yield ("break", c, fault)


def cost_of(options, choice):
    return sum(options[index][2] for index in choice)


def mend_faults(verdict, paper, way, rules, wishes, options, n):
    if verdict == "shown" and n is None:
        yield from breaks_faults(way, rules, options, lambda cost: True, paper)
    elif verdict == "shown":
        choice, lists, breaking = paper
        if cost_of(options, choice) != n:
            yield ("cost",)
        yield from lists_faults(*put_choice(way, rules, options, choice), wishes, lists)
        yield from breaks_faults(way, rules, options, lambda cost: cost < n, breaking)
    elif paper[0] == "less":
        _, choice, lists = paper
        if n is not None and not cost_of(options, choice) < n:
            yield ("cost",)
        yield from lists_faults(*put_choice(way, rules, options, choice), wishes, lists)
    else:
        yield from breaks_faults(way, rules, options, lambda cost: cost <= n, paper[1])


def log_faults(verdict, paper, way, rules, log):
    if verdict == "shown":
        def behind(standing, step):
            return plain_behind(way, rules, standing, step)
        yield from walk(way, paper, behind)
        told, standing = [0], first_of(way)
        for step in paper:
            standing = behind(standing, step)
            told += [plain_showing(way, standing)] if plain_showing(way, standing) != told[-1] else []
        if tuple(told) != log:
            yield ("log",)
    else:
        yield from closed(paper, (1, first_of(way)), lambda trace: plain_after_trace(way, rules, log, trace))
        for k, (many, _) in enumerate(paper):
            if many == len(log):
                yield ("end", k)


def leaf_faults(way, table, word, weaving):
    standing = first_of(way)
    for t, step in enumerate(weaving):
        if step not in plain_steps(way, standing):
            yield ("step", t)
        if not lets(way, table, standing, step):
            yield ("asks", t)
        standing = plain_remembered(way, table, word, standing, step)
    if not plain_broken(way, word, standing):
        yield ("wish",)


def tree_faults(way, tree, table, path):
    if isinstance(tree[0], str):
        for fault in leaf_faults(way, table, *tree):
            yield ("leaf", path, fault)
        return
    index, trees = tree
    if table[index] is not None:
        yield ("index", path)
    for action in range(6):
        yield from tree_faults(way, trees[action], put(table, {index: action}), path + (action,))


def none_faults(verdict, paper, way, wishes):
    if verdict == "shown":
        other, tree = (paper[1], paper[2]) if paper[0] == "narrow" else (way, paper)
        if not way_within(other, way):
            yield ("within",)
        yield from tree_faults(other, tree, NO_ACTIONS, ())
    else:
        yield from lists_faults(way, paper[0], wishes, paper[1])


FAULTS = {
    "keeps": keeps_faults, "soonest": soonest_faults, "alike": alike_faults, "needless": needless_faults,
    "back": back_faults, "mend": mend_faults, "log": log_faults, "none": none_faults,
}
