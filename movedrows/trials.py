"""The trial of partial tables: whether any rules at all keep some wishes."""

from movedrows.asked import asked_index
from movedrows.errors import LimitExceeded
from movedrows.rules import LEAVE, OTHER, rules_with
from movedrows.search import LIMIT, explored
from movedrows.standings import first_standing
from movedrows.steps import stepped, steps_from
from movedrows.wishes import breaking_in, first_break, stepped_for

# How many partial tables are tried at most where a caller gives no other number.
TABLES = 200

# The partial table with which a trial begins.
NO_ACTIONS = (None,) * 27


def open_asked(table, standing, step):
    """Return the index without an action that a step asks which could be done, or None."""
    index = asked_index(standing, step)
    return index if index is not None and table[index] is None else None


def let_steps(way, table, standing):
    """Return a list of the steps that can be done and ask no index without an action."""
    return [step for step in steps_from(way, standing) if open_asked(table, standing, step) is None]


def let_followers(way, table, standing):
    """Return a list of (step, standing after it) for all steps that the partial table lets."""
    return [(step, stepped(way, table, standing, step)) for step in let_steps(way, table, standing)]


def let_followers_for(way, table, word, standing):
    """Return the same, with the memory of the wish."""
    return [(step, stepped_for(way, table, word, standing, step)) for step in let_steps(way, table, standing)]


def reached_by(way, table, limit):
    """Return the search of all standings of the partial table."""
    return explored(first_standing(way), lambda standing: let_followers(way, table, standing), limit)


def reached_by_for(way, table, word, limit):
    """Return the search of all standings of the partial table with the memory of the wish."""
    return explored(first_standing(way), lambda standing: let_followers_for(way, table, word, standing), limit)


def open_index_in(way, table, origins):
    """Return the least open index in a search of the standings of the partial table, or None."""
    asked = [open_asked(table, standing, step) for standing in origins for step in steps_from(way, standing)]
    return min([index for index in asked if index is not None], default=None)


def open_index(way, table, *, limit=LIMIT):
    """Return the least open index of the partial table, or None."""
    return open_index_in(way, table, reached_by(way, table, limit))


def breaking_by(way, table, word, *, limit=LIMIT):
    """Return a shortest weaving of the partial table that breaks the wish, or None."""
    return breaking_in(word, reached_by_for(way, table, word, limit))


def tried(way, wishes, table, limit):
    """Return the leaf of the partial table, which breaks a wish, or None; and its least open index, or None."""
    origins = reached_by(way, table, limit)
    # All wishes are searched ahead of an answer: the standings of each one count.
    searches = [(word, reached_by_for(way, table, word, limit)) for word in wishes]
    return (first_break(searches), open_index_in(way, table, origins))


def trial(way, wishes, limit, tables):
    """Return (the rules to which the trial comes or None, what it found of the other partial tables in turn).

    The second one is a list of a leaf, where a wish is broken, or else the least open index, for each of them.
    """
    found = []
    # The next one to be tried stands last.
    queue = [NO_ACTIONS]
    while queue != []:
        table = queue.pop()
        if len(found) == tables:
            raise LimitExceeded(tables)
        leaf, index = tried(way, wishes, table, limit)
        if leaf is not None:
            found.append(leaf)
        elif index is None:
            return (tuple([LEAVE if action is None else action for action in table]), found)
        else:
            found.append(index)
            queue.extend([rules_with(table, index, action) for action in range(OTHER, LEAVE - 1, -1)])
    return (None, found)


def tree_of(found):
    """Return the tree of what a trial without a table found."""
    # From the last one on: so the trees of a node stand at the end already when it comes, the first of them last.
    trees = []
    for each in found[::-1]:
        if isinstance(each, tuple):
            trees.append(each)
        else:
            branches = tuple([trees.pop() for _ in range(LEAVE, OTHER + 1)])
            trees.append((each, branches))
    return trees[0]


def first_table(way, wishes, *, limit=LIMIT, tables=TABLES):
    """Return the rules to which the trial of the way and wishes comes, or None."""
    rules, _ = trial(way, wishes, limit, tables)
    return rules
