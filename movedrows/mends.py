"""Mends: which of a few given changes of the way and rules make them keep some wishes most cheaply."""

from movedrows.errors import InvalidOptions
from movedrows.parts import is_between
from movedrows.rules import LEAVE, OTHER, RULES, rules_with
from movedrows.search import LIMIT
from movedrows.ways import RANGES, WAY_PARTS, way_with
from movedrows.wishes import first_break, reached_for

MOST_OPTIONS = 3
OPTION_PARTS = 3
GREATEST_COST = 99


def is_option(value):
    """Return whether any value is an option."""
    if not isinstance(value, tuple) or len(value) != OPTION_PARTS:
        return False
    what, part, cost = value
    if not is_between(what, 0, WAY_PARTS + RULES - 1) or not is_between(cost, 0, GREATEST_COST):
        return False
    least, greatest = RANGES[what] if what < WAY_PARTS else (LEAVE, OTHER)
    return is_between(part, least, greatest)


def require_options(value):
    """Return any value that is a tuple of options; raise InvalidOptions for any other one."""
    if not isinstance(value, tuple) or not 1 <= len(value) <= MOST_OPTIONS:
        raise InvalidOptions(None)
    for index, option in enumerate(value):
        if not is_option(option):
            raise InvalidOptions(index)
    return value


def choice_cost(options, choice):
    """Return the cost of the choice."""
    return sum([options[index][2] for index in choice])


def is_apart(options, choice):
    """Return whether no two options of the choice put the same part or rule."""
    return len(set([options[index][0] for index in choice])) == len(choice)


def choices_by_cost(options):
    """Return the ascending list of (cost, choice) of all choices."""
    found = [()]
    for index in range(len(options)):
        found = found + [choice + (index,) for choice in found]
    return sorted([(choice_cost(options, choice), choice) for choice in found if is_apart(options, choice)])


def choices(options):
    """Yield all choices, by their cost and then as tuples."""
    for _, choice in choices_by_cost(options):
        yield choice


def with_choice(way, rules, options, choice):
    """Return the way and the rules with all options of the choice."""
    for index in choice:
        what, value, _ = options[index]
        if what < WAY_PARTS:
            way = way_with(way, what, value)
        else:
            rules = rules_with(rules, what - WAY_PARTS, value)
    return (way, rules)


def searches_for(way, rules, wishes, limit):
    """Return a list of (wish, search with its memory) for all wishes."""
    return [(word, reached_for(way, rules, word, limit)) for word in wishes]


def first_mend(way, rules, wishes, options, limit):
    """Return (the first choice that mends or None, its searches, a list of (choice, break) for those ahead of it).

    A break is a wish and a shortest weaving that breaks it with the choice.
    """
    mend, searches_with_it, breaks = None, [], []
    for choice in choices(options):
        # All choices count for the limit, also those behind the one that mends: so none is left out.
        changed_way, changed_rules = with_choice(way, rules, options, choice)
        searches = searches_for(changed_way, changed_rules, wishes, limit)
        if mend is None:
            broken = first_break(searches)
            if broken is None:
                mend, searches_with_it = choice, searches
            else:
                breaks.append((choice, broken))
    return (mend, searches_with_it, breaks)


def cheapest_mend(way, rules, wishes, options, *, limit=LIMIT):
    """Return the first choice with which the way and rules keep all wishes, or None."""
    choice, _, _ = first_mend(way, rules, wishes, options, limit)
    return choice
