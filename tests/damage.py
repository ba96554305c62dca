"""Papers that are damaged but keep the form of their row, for the tests of the checker."""

from given import STEPS, own_rules
from plain import WISHES, plain_ranked, ranks
from plain_searches import put

FEW_STEPS = [step for step in STEPS if step[0] not in ("press", "wipe") or step[2] < 3]


def ranked_double(double):
    """Return the double standing with ranks."""
    place, now, lanes, held, phase, other = double
    stamps = [now] + [entry[2] for lane in lanes for part in lane for entry in part]
    stamps += [slot[1] for slot in held + other if slot]
    rank = ranks(stamps)
    lanes = tuple(tuple(tuple((k, kind, rank[s]) for k, kind, s in part) for part in lane) for lane in lanes)
    held, other = [tuple((slot[0], rank[slot[1]]) if slot else () for slot in slots) for slots in (held, other)]
    return (place, rank[now], lanes, held, phase, other)


def other_standing(made, standing, kind):
    """Return a standing of the same kind, of the right form, that differs in one part."""
    if kind == "trace":
        return (standing[0], other_standing(made, standing[1], "plain"))
    place, now, lanes, held, phase, last = standing
    part = made.randrange(4)
    if part == 0:
        place = made.randrange(3)
    elif part == 1:
        now = made.randrange(1, 4)
    elif part == 2:
        held = (made.choice(((), (1, 1), (0, 2), (2, 1))), held[1])
    else:
        lane = made.randrange(len(lanes))
        again, untaken = lanes[lane]
        lanes = put(lanes, {lane: (untaken[:2], again)})
    if kind == "wish" and made.random() < 0.5:
        last = (made.randrange(2), made.randrange(3))
    changed = (place, now, lanes, held, phase, last)
    return ranked_double(changed) if kind == "double" else plain_ranked(changed)


def damaged_list(made, items, kind):
    """Return the list with an item more or less, some less, another one in the place of one, or none at all."""
    items = set(items)
    way = made.randrange(8)
    if way == 0:
        return ()
    if way == 1:
        return tuple(sorted(items)[made.randrange(3):])
    for _ in range(made.choice((1, 1, 1, 5))):
        one = made.choice(sorted(items)) if items else None
        if one is not None and way < 6:
            items.discard(one)
        if one is not None and way > 3:
            items.add(other_standing(made, one, kind))
    return tuple(sorted(items))


def damaged_weaving(made, weaving):
    """Return the weaving with a step more or less, or another one in the place of one."""
    steps = list(weaving)
    at = made.randrange(len(steps) + 1)
    way = made.randrange(6)
    if way == 0:
        return weaving[:at]
    if way == 1:
        return weaving + (made.choice(FEW_STEPS),)
    if way == 2:
        return weaving[:at] + weaving[at + 1:]
    if way == 3:
        return weaving[:at] + (made.choice(FEW_STEPS),) + weaving[at + 1:]
    if way == 4:
        return weaving[:at] + (made.choice(FEW_STEPS),) + weaving[at:]
    return weaving + weaving[:1]


def damaged_numbers(made, numbers, most):
    """Return the numbers with one or some others."""
    numbers = list(numbers)
    for _ in range(made.choice((1, 1, 4))):
        if numbers:
            at = made.randrange(len(numbers))
            other = made.choice((numbers[at] + 1, numbers[at] - 1, 0, most, made.randrange(9)))
            numbers[at] = min(max(other, 0), most)
    return tuple(numbers)


def damaged_beside(made, items, numbers, kind, damage, none):
    """Return the list and what stands beside each of its items, one of both damaged."""
    if made.random() < 0.6:
        return items, damage(made, numbers)
    beside = dict(zip(items, numbers))
    items = damaged_list(made, items, kind)
    return items, tuple(beside.get(item, none) for item in items)


def damaged_levels(made, levels):
    return damaged_numbers(made, levels, 2000)


def damaged_bounds(made, bounds):
    return damaged_numbers(made, bounds, 10 ** 40)


def damaged_values(made, values):
    if made.random() < 0.5:
        return tuple(zip(damaged_numbers(made, [v for v, _ in values], 10 ** 40), [steps for _, steps in values]))
    return tuple(zip([v for v, _ in values], damaged_numbers(made, [steps for _, steps in values], 2000)))


def damaged_one(made, parts, damage):
    """Return the parts with one of them damaged."""
    if not parts:
        return parts
    at = made.randrange(len(parts))
    return put(parts, {at: damage(made, parts[at])})


def damaged_break(made, wishes, pair):
    word, weaving = pair
    if made.random() < 0.3:
        return (made.choice(wishes), weaving)
    return (word, damaged_weaving(made, weaving))


def damaged_breaks(made, wishes, breaks):
    way = made.randrange(5)
    if way == 0:
        return breaks[:-1]
    if way == 1:
        return breaks + breaks[:1]
    if way == 2:
        return breaks[::-1]
    return damaged_one(made, breaks, lambda made, pair: damaged_break(made, wishes, pair))


def damaged_tree(made, wishes, tree):
    """Return the tree with another leaf, another index, or a part of it exchanged."""
    if isinstance(tree[0], str):
        if made.random() < 0.2:
            return (made.randrange(27), (tree,) * 6)
        return damaged_break(made, wishes, tree)
    index, trees = tree
    way = made.randrange(8)
    if way == 0:
        return (made.randrange(27), trees)
    if way == 1:
        return (index, trees[1:] + trees[:1])
    if way == 2:
        return trees[made.randrange(6)]
    return (index, damaged_one(made, trees, lambda made, other: damaged_tree(made, wishes, other)))


def damaged_lists(made, lists):
    return damaged_one(made, lists, lambda made, items: damaged_list(made, items, "wish"))


def damaged_soonest(made, verdict, claim, paper):
    if verdict == "shown" and claim[4] is None:
        return damaged_list(made, paper, "wish")
    if verdict == "shown":
        if made.random() < 0.3:
            return paper[:2] + (damaged_weaving(made, paper[2]),)
        return damaged_beside(made, *paper[:2], "wish", damaged_levels, 1) + paper[2:]
    if paper[0] == "kept":
        return ("kept", damaged_list(made, paper[1], "wish"))
    if paper[0] == "sooner":
        return ("sooner", damaged_weaving(made, paper[1]))
    return ("later",) + damaged_beside(made, *paper[1:], "wish", damaged_levels, 1)


def damaged_less(made, paper):
    return damaged_beside(made, *paper, "plain", damaged_values, (1, 1))


def damaged_more(made, paper):
    weaving, others, bounds = paper
    if made.random() < 0.3:
        return (damaged_weaving(made, weaving), others, bounds)
    return (weaving,) + damaged_beside(made, others, bounds, "plain", damaged_bounds, 1)


def damaged_never(made, paper):
    weaving, others = paper
    if made.random() < 0.4:
        return (damaged_weaving(made, weaving), others)
    return (weaving, damaged_list(made, others, "plain"))


def damaged_back(made, verdict, claim, paper):
    if verdict == "shown" and claim[4] is None:
        return damaged_never(made, paper)
    if verdict == "shown":
        if made.random() < 0.5:
            return damaged_less(made, paper[:2]) + paper[2:]
        return paper[:2] + damaged_more(made, paper[2:])
    damage = {"less": damaged_less, "more": damaged_more, "never": damaged_never}[paper[0]]
    return paper[:1] + damage(made, paper[1:])


def damaged_mend(made, verdict, claim, paper):
    _, way, rules, wishes, options, most = claim
    if verdict == "shown" and most is None:
        return damaged_breaks(made, wishes, paper)
    if verdict == "shown":
        choice, lists, breaks = paper
        if made.random() < 0.5:
            return (choice, damaged_lists(made, lists), breaks)
        return (choice, lists, damaged_breaks(made, wishes, breaks))
    if paper[0] == "less":
        return paper[:2] + (damaged_lists(made, paper[2]),)
    return ("more", damaged_breaks(made, wishes, paper[1]))


def damaged_paper(made, verdict, claim, paper):
    """Return a paper of the same row that is damaged."""
    word = claim[0]
    if word == "keeps":
        return damaged_list(made, paper, "wish") if verdict == "shown" else damaged_weaving(made, paper)
    if word == "soonest":
        return damaged_soonest(made, verdict, claim, paper)
    if word in ("alike", "needless"):
        kind = "double" if word == "alike" else "plain"
        return damaged_list(made, paper, kind) if verdict == "shown" else damaged_weaving(made, paper)
    if word == "back":
        return damaged_back(made, verdict, claim, paper)
    if word == "mend":
        return damaged_mend(made, verdict, claim, paper)
    if word == "log":
        return damaged_weaving(made, paper) if verdict == "shown" else damaged_list(made, paper, "trace")
    if verdict == "shown":
        return damaged_tree(made, claim[2], paper)
    return (paper[0], damaged_lists(made, paper[1]))


def other_claim(made, claim):
    """Return a claim that differs in one part, but not in one that its papers' forms go by."""
    word = claim[0]
    if word in ("keeps", "soonest") and made.random() < 0.5:
        return put(claim, {3: made.choice(WISHES)})
    if word == "needless" and made.random() < 0.6:
        return put(claim, {3: made.randrange(27)})
    if word in ("soonest", "back", "mend") and claim[-1] is not None and made.random() < 0.6:
        least = 1 if word == "soonest" else 0
        return claim[:-1] + (max(least, claim[-1] + made.choice((-1, 1, 7))),)
    if word == "alike" and made.random() < 0.5:
        return put(claim, {3: own_rules(made.randrange(9))})
    if word == "log" and made.random() < 0.5:
        return put(claim, {3: tuple((0, 2, 1, 3)[shown] for shown in claim[3])})
    if word == "none":
        return claim
    return put(claim, {2: own_rules(made.randrange(9))})


def damaged(made, certificate):
    """Return a certificate of the same row, its paper or its claim damaged, or both."""
    verdict, claim, paper = certificate
    if made.random() < 0.2:
        return (verdict, other_claim(made, claim), paper)
    paper = damaged_paper(made, verdict, claim, paper)
    if made.random() < 0.2:
        paper = damaged_paper(made, verdict, claim, paper)
    return (verdict, claim, paper)
