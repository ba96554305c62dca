"""Wishes: what readers should never show, and what a standing remembers of the way to it."""

from movedrows.entries import NOWHERE
from movedrows.errors import UnknownWord
from movedrows.search import LIMIT, explored, weaving_in
from movedrows.standings import MEMORY, NO_MEMORY, first_standing, is_quiet, is_true, ranked, shown_rows
from movedrows.steps import stepped, steps_from
from movedrows.weavings import states_along

# The words in ascending order.
WISHES = ("ends", "on", "one", "there")

# With which number the memory of "there" begins, before and after the row was shown.
AWAITED = 0
SHOWN = 1


def require_wish(value):
    """Return any value that is a wish; raise UnknownWord for any other one."""
    if value not in WISHES:
        raise UnknownWord(value)
    return value


def there_memory(ahead, standing):
    """Return the memory of "there" in a standing after a step."""
    place, now, _, _, _, memory = standing
    if place == NOWHERE:
        return NO_MEMORY
    if ahead[0] == NOWHERE:
        memory = (AWAITED, now)
    begun, least = memory
    if begun == AWAITED and any([stamp >= least for _, stamp in shown_rows(standing)]):
        return (SHOWN, 0)
    return memory


def on_memory(standing):
    """Return the memory of "on" in a standing after a step."""
    return (0, max([standing[MEMORY][1]] + [stamp for _, stamp in shown_rows(standing)]))


def memory_behind(word, ahead, standing):
    """Return the memory of the wish after a step, with the stamps of the standing after it."""
    if word == "there":
        return there_memory(ahead, standing)
    if word == "on":
        return on_memory(standing)
    return NO_MEMORY


def remembered(word, ahead, standing):
    """Return the standing after a step from the one ahead, with the memory of the wish and with ranks."""
    memory = memory_behind(require_wish(word), ahead, standing)
    return ranked(standing[:MEMORY] + (memory,))


def goes_back(standing):
    """Return whether rows are shown, all of them elder than what was shown before."""
    rows = shown_rows(standing)
    return rows != () and all([stamp < standing[MEMORY][1] for _, stamp in rows])


def is_broken(word, standing):
    """Return whether the wish is broken in the standing with its memory."""
    require_wish(word)
    if word == "one":
        return len(shown_rows(standing)) == 2
    if word == "there":
        return standing[MEMORY][0] == SHOWN and shown_rows(standing) == ()
    if word == "on":
        return goes_back(standing)
    return is_quiet(standing) and not is_true(standing)


def stepped_for(way, rules, word, standing, step):
    """Return the standing after a step that can be done, with the memory of the wish."""
    return remembered(word, standing, stepped(way, rules, standing, step))


def standings_along_for(way, rules, word, weaving):
    """Return a list of the standings from the first one on, with the memory of the wish.

    Raise CannotStep with the index of the first step that cannot be done.
    """
    first = first_standing(way)
    return states_along(way, first, lambda ahead, step: stepped_for(way, rules, word, ahead, step), weaving)


def steps_to_break(way, rules, word, weaving):
    """Return the number of steps of the weaving after which the wish is broken first, or None."""
    for many, standing in enumerate(standings_along_for(way, rules, word, weaving)):
        if is_broken(word, standing):
            return many
    return None


def followers_for(way, rules, word, standing):
    """Return a list of (step, standing after it with the memory of the wish) for all steps that can be done."""
    return [(step, stepped_for(way, rules, word, standing, step)) for step in steps_from(way, standing)]


def reached_for(way, rules, word, limit):
    """Return the search of all standings with the memory of the wish."""
    require_wish(word)
    return explored(first_standing(way), lambda standing: followers_for(way, rules, word, standing), limit)


def standings_for(way, rules, word, *, limit=LIMIT):
    """Return the strictly ascending tuple of all standings with the memory of the wish."""
    return tuple(sorted(reached_for(way, rules, word, limit)))


def breaking_in(word, origins):
    """Return a shortest weaving of a search with the memory of the wish after which it is broken, or None."""
    for standing in origins:
        if is_broken(word, standing):
            return weaving_in(origins, standing)
    return None


def first_break(searches):
    """Return (wish, shortest weaving) of the first wish that is broken in its search, or None.

    searches is a list of (wish, search with its memory).
    """
    for word, origins in searches:
        weaving = breaking_in(word, origins)
        if weaving is not None:
            return (word, weaving)
    return None


def breaking(way, rules, word, *, limit=LIMIT):
    """Return a shortest weaving after which the wish is broken, or None."""
    return breaking_in(word, reached_for(way, rules, word, limit))


def keeps(way, rules, word, *, limit=LIMIT):
    """Return whether the way and rules keep the wish."""
    return breaking(way, rules, word, limit=limit) is None
