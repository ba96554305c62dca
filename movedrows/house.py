"""Houses: tables of a few rows, with one reader who takes the entries of all of them."""

from movedrows.deeds import ROW_INDEX, ROW_WORDS, behind_deed, first_crowd, own_standing
from movedrows.entries import NOWHERE
from movedrows.errors import CannotStep, InvalidNames, NothingDone, Refused, UnknownName
from movedrows.parts import is_between
from movedrows.rules import require_rules
from movedrows.standings import ranked, rows_in
from movedrows.ways import require_way
from movedrows.wishes import require_wish, steps_to_break

MOST_NAMES = 6
LONGEST_NAME = 8
LETTERS = "abcdefghijklmnopqrstuvwxyz"
MOST_DEEDS = 200

# The number of parts of each deed, by its word.
DEED_PARTS = {
    "change": 3,
    "take": 2,
    "slip": 2,
    "mark": 2,
    "fall": 2,
    "press": 3,
    "wipe": 3,
    "picture": 1,
    "look": 3,
    "end": 1,
    "peek": 3,
}


def is_name(value):
    """Return whether any value is a text that can name a row."""
    if not isinstance(value, str) or not 1 <= len(value) <= LONGEST_NAME:
        return False
    return all([letter in LETTERS for letter in value])


def require_names(value):
    """Return any value that is a tuple of names; raise InvalidNames for any other one."""
    if not isinstance(value, tuple) or not 1 <= len(value) <= MOST_NAMES:
        raise InvalidNames(None)
    for index, name in enumerate(value):
        if not is_name(name) or name in value[:index]:
            raise InvalidNames(index)
    return value


def is_deed(value):
    """Return whether any value is a tuple that begins with the word of a deed and has as many parts as that one."""
    if not isinstance(value, tuple) or value == () or not isinstance(value[0], str):
        return False
    return value[0] in DEED_PARTS and len(value) == DEED_PARTS[value[0]]


def require_deeds(value):
    """Return any value that is a tuple of deeds in their form; raise Refused for any other one."""
    if not isinstance(value, tuple) or len(value) > MOST_DEEDS or not all([is_deed(each) for each in value]):
        raise Refused(-1, None)
    return value


class House:
    """Rows by their names, a way and rules: what is done to them, and what the reader holds and shows."""

    def __init__(self, way, rules, names):
        self._way = require_way(way)
        self._rules = require_rules(rules)
        self._names = require_names(names)
        # All deeds done, each with the (row, step) that it was for its rows and the indices that it asked.
        self._done = []
        # The crowd ahead of all deeds, and that after each of them: so what was done can be undone.
        self._crowds = [first_crowd(way, len(names))]

    def __len__(self):
        return len(self._done)

    def __eq__(self, other):
        if not isinstance(other, House):
            return False
        return self._told() == other._told()

    def __iadd__(self, other):
        many = len(self._done)
        for index, deed in enumerate(require_deeds(other)):
            try:
                self._do(deed)
            except UnknownName:
                self._undo_to(many)
                raise Refused(index, "UnknownName") from None
            except CannotStep:
                self._undo_to(many)
                raise Refused(index, "CannotStep") from None
        return self

    def change(self, name, place):
        """Change the row to the place."""
        self._do(("change", name, place))

    def take(self, lane):
        """Take the first untaken entry of the lane, whosever it is."""
        self._do(("take", lane))

    def slip(self, lane):
        """Let the first untaken entry of the lane slip."""
        self._do(("slip", lane))

    def mark(self, lane):
        """Mark the lane: no entry taken so far comes again."""
        self._do(("mark", lane))

    def fall(self, lane):
        """Let the reader fall: the entries of the lane since its mark come again."""
        self._do(("fall", lane))

    def press(self, lane, index):
        """Press the entry at the index out of the lane, for a later one of the same row and key."""
        self._do(("press", lane, index))

    def wipe(self, lane, index):
        """Wipe the strike at the index out of the lane."""
        self._do(("wipe", lane, index))

    def picture(self):
        """Begin a picture of all rows."""
        self._do(("picture",))

    def look(self, name, key):
        """Look at a key of the row for the picture."""
        self._do(("look", name, key))

    def end(self):
        """End the picture."""
        self._do(("end",))

    def peek(self, name, key):
        """Look at a key of the row without a picture."""
        self._do(("peek", name, key))

    def deeds(self):
        """Return the tuple of all deeds done."""
        return tuple([deed for deed, _, _ in self._done])

    def shows(self, name):
        """Return the ascending tuple of (key, stamp) that is shown of the row."""
        _, _, held, _ = self._crowd_row(name)
        return rows_in(held)

    def place_of(self, name):
        """Return the place of the row."""
        return self._crowd_row(name)[0]

    def weaving_of(self, name):
        """Return the weaving of the row: the steps that changed its part."""
        row = self._row(name)
        return tuple([step for _, steps, _ in self._done for owner, step in steps if owner == row])

    def standing_of(self, name):
        """Return the standing that the house holds for the row."""
        return ranked(own_standing(self._crowds[-1], self._row(name)))

    def lane(self, lane):
        """Return the pair (again, untaken) of the lane, tuples of (name, key, kind, stamp)."""
        _, lanes = self._crowds[-1]
        if not is_between(lane, 0, len(lanes) - 1):
            raise CannotStep(None)
        again, untaken = lanes[lane]
        return (self._named(again), self._named(untaken))

    def table(self):
        """Return the ascending tuple of (name, key, stamp) of all rows that are shown."""
        return tuple(sorted([(name, key, stamp) for name in self._names for key, stamp in self.shows(name)]))

    def truth(self):
        """Return the ascending tuple of (name, place, stamp of the last change) of the rows that stand under a key."""
        rows, _ = self._crowds[-1]
        told = [(name, place, now) for name, (place, now, _, _) in zip(self._names, rows) if place != NOWHERE]
        return tuple(sorted(told))

    def asked(self):
        """Return the ascending tuple of the indices of rules that deeds which are done have asked."""
        return tuple(sorted({index for _, _, asked in self._done for index in asked}))

    def broken(self, word):
        """Return the ascending tuple of (name, steps) of the rows whose weaving breaks the wish, first after these."""
        require_wish(word)
        found = [(name, self._steps_to_break(name, word)) for name in sorted(self._names)]
        return tuple([(name, many) for name, many in found if many is not None])

    def paper_of(self, name, word):
        """Return a certificate that the row breaks the wish, or None if it does not."""
        self._row(name)
        require_wish(word)
        many = self._steps_to_break(name, word)
        if many is None:
            return None
        return ("broken", ("keeps", self._way, self._rules, word), self.weaving_of(name)[:many])

    def twin(self):
        """Return a house of its own with the same way, rules, names and deeds."""
        house = House(self._way, self._rules, self._names)
        house._done = list(self._done)
        house._crowds = list(self._crowds)
        return house

    def undo(self):
        """Undo the last deed, as if it had never been done."""
        if len(self._done) == 0:
            raise NothingDone()
        self._undo_to(len(self._done) - 1)

    def _told(self):
        """Return what tells this house from others: its way, rules, names and deeds."""
        return (self._way, self._rules, self._names, self.deeds())

    def _row(self, name):
        """Return the index of the row; raise UnknownName for any value that is no name of one."""
        if name not in self._names:
            raise UnknownName(name)
        return self._names.index(name)

    def _crowd_row(self, name):
        """Return what the crowd has of the row: its place, its last stamp, what is held, the phase."""
        row = self._row(name)
        rows, _ = self._crowds[-1]
        return rows[row]

    def _named(self, entries):
        """Return the entries with the names of their rows."""
        return tuple([(self._names[entry[ROW_INDEX]],) + entry[:ROW_INDEX] for entry in entries])

    def _steps_to_break(self, name, word):
        """Return the number of steps of the row's weaving after which it breaks the wish first, or None."""
        return steps_to_break(self._way, self._rules, word, self.weaving_of(name))

    def _do(self, deed):
        """Do a deed; raise UnknownName, or CannotStep if it cannot be done."""
        told = deed
        if deed[0] in ROW_WORDS:
            word, name, part = deed
            told = (word, self._row(name), part)
        crowd, steps, asked = behind_deed(self._way, self._rules, self._crowds[-1], told)
        self._done.append((deed, steps, asked))
        self._crowds.append(crowd)

    def _undo_to(self, many):
        """Undo all deeds but so many."""
        del self._done[many:]
        del self._crowds[many + 1:]
