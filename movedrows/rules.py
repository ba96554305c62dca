"""Tables of rules, and what a reader holds after an entry has asked its rule."""

from movedrows.entries import is_elder
from movedrows.errors import InvalidRules, UnknownWord
from movedrows.parts import is_between

# The actions, by the words that texts have for them.
LEAVE = 0
LAY = 1
MOVE = 2
DROP = 3
BOTH = 4
OTHER = 5

# What an entry finds under a key.
EMPTY = 0
ELDER = 1
FRESH = 2

RULES = 27

# A line for each kind: strike, row, absence; in it three for each thing found under the entry's key.
OVER_RULES = (
    3, 3, 3, 3, 3, 3, 3, 3, 3,
    1, 1, 1, 1, 1, 1, 1, 1, 1,
    3, 3, 3, 3, 3, 3, 3, 3, 3,
)
KEY_RULES = (
    1, 1, 1, 1, 1, 1, 0, 0, 0,
    1, 1, 1, 1, 1, 1, 0, 0, 0,
    1, 1, 1, 1, 1, 1, 0, 0, 0,
)
ROW_RULES = (
    2, 2, 0, 2, 2, 0, 0, 0, 0,
    2, 2, 0, 2, 2, 0, 0, 0, 0,
    3, 3, 0, 3, 3, 0, 0, 0, 0,
)


def require_rules(value):
    """Return any value that is a table of rules; raise InvalidRules for any other one."""
    if not isinstance(value, tuple) or len(value) != RULES:
        raise InvalidRules(None)
    for index, action in enumerate(value):
        if not is_between(action, LEAVE, OTHER):
            raise InvalidRules(index)
    return value


def named_rules(word):
    """Return the table of rules with this name; raise UnknownWord for any other value."""
    if word == "over":
        return OVER_RULES
    if word == "key":
        return KEY_RULES
    if word == "row":
        return ROW_RULES
    raise UnknownWord(word)


def relation(slot, entry):
    """Return what the entry finds under a key where slot is held."""
    if slot == ():
        return EMPTY
    # What is held is an entry without its key, and age does not depend on keys.
    return ELDER if is_elder((entry[0],) + slot, entry) else FRESH


def from_key(pair, key):
    """Return the pair seen from the key: its own part first. Seen so twice, it is as it was."""
    return pair if key == 1 else (pair[1], pair[0])


def asked_rule(held, entry):
    """Return the index of the rule that the entry asks."""
    key, kind, _ = entry
    own, other = from_key(held, key)
    return kind * 9 + relation(own, entry) * 3 + relation(other, entry)


def laid(rules, held, entry):
    """Return the holdings after the action that the entry asks of the rules."""
    key, kind, stamp = entry
    action = rules[asked_rule(held, entry)]
    own, other = from_key(held, key)
    if action in (LAY, MOVE):
        own = (kind, stamp)
    if action in (DROP, BOTH):
        own = ()
    if action in (MOVE, BOTH, OTHER):
        other = ()
    return from_key((own, other), key)


def rules_with(rules, index, action):
    """Return the rules with another action at the index."""
    return rules[:index] + (action,) + rules[index + 1:]
