"""Claims about ways, rules and wishes, and the certificates that decide them."""

from movedrows.back import require_weights
from movedrows.errors import InvalidClaim, InvalidLog, InvalidOptions, InvalidRules, InvalidWay, InvalidWeights
from movedrows.errors import UnknownWord
from movedrows.logs import require_log
from movedrows.mends import require_options
from movedrows.papers import paper_for
from movedrows.parts import is_ascending, is_between
from movedrows.rules import require_rules
from movedrows.search import LIMIT
from movedrows.trials import TABLES
from movedrows.ways import require_way
from movedrows.wishes import require_wish

# What stands behind the word of each claim.
CLAIM_PARTS = {
    "keeps": ("way", "rules", "wish"),
    "soonest": ("way", "rules", "wish", "steps"),
    "alike": ("way", "rules", "rules"),
    "needless": ("way", "rules", "index"),
    "back": ("way", "rules", "weights", "weight"),
    "mend": ("way", "rules", "wishes", "options", "cost"),
    "log": ("way", "rules", "log"),
    "none": ("way", "wishes"),
}

# The least and the greatest value of the parts that are integers.
INDEX_RANGE = (0, 26)
STEPS_RANGE = (1, 2000)
WEIGHT_RANGE = (0, 10 ** 40)
COST_RANGE = (0, 300)


def require_wishes(value):
    """Return any value that is a tuple of wishes; raise InvalidClaim or UnknownWord for any other one."""
    if not isinstance(value, tuple) or value == ():
        raise InvalidClaim()
    for word in value:
        require_wish(word)
    if not is_ascending(value):
        raise InvalidClaim()
    return value


def require_number(value, around):
    """Return any value that is an integer in the range; raise InvalidClaim for any other one."""
    if not is_between(value, *around):
        raise InvalidClaim()
    return value


def require_bound(value, around):
    """Return None, or any value that is an integer in the range; raise InvalidClaim for any other one."""
    return None if value is None else require_number(value, around)


def require_part(part, value):
    """Return any value that is such a part of a claim; raise an error of its own for any other one."""
    if part == "way":
        return require_way(value)
    if part == "rules":
        return require_rules(value)
    if part == "wish":
        return require_wish(value)
    if part == "wishes":
        return require_wishes(value)
    if part == "weights":
        return require_weights(value)
    if part == "options":
        return require_options(value)
    if part == "log":
        return require_log(value)
    if part == "index":
        return require_number(value, INDEX_RANGE)
    if part == "steps":
        return require_bound(value, STEPS_RANGE)
    if part == "weight":
        return require_bound(value, WEIGHT_RANGE)
    return require_bound(value, COST_RANGE)


def parts_of(claim):
    """Return what should stand behind the word of any value; raise InvalidClaim if it cannot be a claim."""
    if not isinstance(claim, tuple) or claim == () or not isinstance(claim[0], str) or claim[0] not in CLAIM_PARTS:
        raise InvalidClaim()
    parts = CLAIM_PARTS[claim[0]]
    if len(claim) != len(parts) + 1:
        raise InvalidClaim()
    return parts


def require_claim(claim):
    """Return any value that is a claim; raise InvalidClaim for any other one."""
    parts = parts_of(claim)
    try:
        for part, value in zip(parts, claim[1:]):
            require_part(part, value)
    except (InvalidWay, InvalidRules, InvalidWeights, InvalidOptions, InvalidLog, UnknownWord):
        raise InvalidClaim() from None
    return claim


def decide(claim, *, limit=LIMIT, tables=TABLES):
    """Return a certificate that any value which is a claim is true, or that it is false; raise InvalidClaim."""
    require_claim(claim)
    verdict, paper = paper_for(claim, limit, tables)
    return (verdict, claim, paper)
