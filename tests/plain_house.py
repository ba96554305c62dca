"""Houses told a second time, by whole lanes and sets of looked keys; nothing of the program is used here."""

from plain import finds, plain_ranked

FORMS = {
    "change": 3, "take": 2, "slip": 2, "mark": 2, "fall": 2, "press": 3, "wipe": 3, "picture": 1, "look": 3, "end": 1,
    "peek": 3,
}


def is_in(value, least, greatest):
    """Return whether this is an integer in the range."""
    return type(value) is int and least <= value <= greatest


class PlainHouse:
    def __init__(self, way, rules, names):
        (self.many, self.first, self.lag, self.marks, self.slips,
         self.press, self.wipe, self.picture, self.peeks) = self.way = way
        self.rules = rules
        self.names = names
        self.place = dict.fromkeys(names, 0)
        self.now = dict.fromkeys(names, 0)
        self.held = {name: {1: (), 2: ()} for name in names}
        self.looked = None
        self.again = [[] for _ in range(self.many)]
        self.untaken = [[] for _ in range(self.many)]
        self.weavings = {name: [] for name in names}
        self.done = []
        self.asked = set()

    def told(self, name, place):
        """Return the entries of a change, in their order."""
        old, stamp, entries = self.place[name], self.now[name] + 1, []
        if self.looked is not None and self.picture == 2:
            return []
        if old and old != place:
            entries.append((name, old, 0, stamp))
        if place:
            entries.append((name, place, 1, stamp))
        return entries[::-1] if self.many == 1 and self.first == 1 else entries

    def lane_of(self, entry):
        return entry[1] - 1 if self.many == 2 else 0

    def can_change(self, name, place):
        if not is_in(place, 0, 2) or place == self.place[name] == 0:
            return False
        for lane in range(self.many):
            entries = self.untaken[lane] + [entry for entry in self.told(name, place) if self.lane_of(entry) == lane]
            if len({entry[3] for entry in entries if entry[0] == name}) > self.lag:
                return False
        return True

    def can_take(self, lane):
        if self.looked is not None or not self.untaken[lane]:
            return False
        name = self.untaken[lane][0][0]
        return self.marks == 0 or len([entry for entry in self.again[lane] if entry[0] == name]) < self.marks

    def can_entry(self, word, lane, index):
        entries = self.again[lane] + self.untaken[lane]
        if not is_in(index, 0, len(entries) - 1):
            return False
        name, key, kind, _ = entries[index]
        if word == "press":
            return self.press == 1 and (name, key) in [entry[:2] for entry in entries[index + 1:]]
        ahead = (name, key) in [entry[:2] for entry in entries[:index]]
        if kind != 0 or self.wipe == 0:
            return False
        if self.wipe == 3:
            return True
        return not ahead and (self.wipe == 2 or index < len(self.again[lane]))

    def can(self, deed):
        """Return whether a deed of any values can be done; its names are names of rows."""
        word, *rest = deed
        if word == "change":
            return self.can_change(*rest)
        if word in ("look", "peek"):
            name, key = rest
            if not is_in(key, 1, 2):
                return False
            if word == "peek":
                return self.peeks == 1 and self.looked is None
            return self.looked is not None and (name, key) not in self.looked
        if word == "picture":
            return self.picture != 0 and self.looked is None
        if word == "end":
            return self.looked is not None and len(self.looked) == 2 * len(self.names)
        lane = rest[0]
        if not is_in(lane, 0, self.many - 1):
            return False
        if word == "take":
            return self.can_take(lane)
        if word == "slip":
            return self.slips == 1 and self.looked is None and bool(self.untaken[lane])
        if word in ("mark", "fall"):
            return bool(self.again[lane])
        return self.can_entry(word, lane, rest[1])

    def ask(self, name, key, kind, stamp):
        held, other = self.held[name], 3 - key
        index = kind * 9 + finds(held[key], kind, stamp) * 3 + finds(held[other], kind, stamp)
        self.asked.add(index)
        action = self.rules[index]
        if action in (1, 2):
            held[key] = (kind, stamp)
        if action in (3, 4):
            held[key] = ()
        if action in (2, 4, 5):
            held[other] = ()

    def look(self, name, key):
        if self.now[name]:
            self.ask(name, key, 1 if self.place[name] == key else 2, self.now[name])

    def own_index(self, lane, index):
        """Return the name of the row of an entry, and its index in the row's part."""
        entries = self.again[lane] + self.untaken[lane]
        name = entries[index][0]
        return name, len([entry for entry in entries[:index] if entry[0] == name])

    def do(self, deed):
        """Do a deed that can be done."""
        word, *rest = deed
        self.done.append(deed)
        if word == "change":
            name, place = rest
            for entry in self.told(name, place):
                self.untaken[self.lane_of(entry)].append(entry)
            self.place[name], self.now[name] = place, self.now[name] + 1
            self.weavings[name].append(("change", place))
        elif word in ("look", "peek"):
            name, key = rest
            self.look(name, key)
            if word == "look":
                self.looked.add((name, key))
            self.weavings[name].append((word, key))
        elif word in ("picture", "end"):
            if word == "picture":
                self.again = [[] for _ in self.again]
                self.untaken = [[] for _ in self.untaken]
            self.looked = set() if word == "picture" else None
            for name in self.names:
                self.weavings[name].append((word,))
        else:
            self.do_lane(word, *rest)

    def do_lane(self, word, lane, index=None):
        again, untaken = self.again[lane], self.untaken[lane]
        owners = {entry[0] for entry in again}
        if word == "take":
            entry = untaken.pop(0)
            self.ask(*entry)
            if self.marks:
                again.append(entry)
            self.weavings[entry[0]].append(("take", lane))
        elif word == "slip":
            name = untaken.pop(0)[0]
            self.again[lane] = []
            self.weavings[name].append(("slip", lane))
            for other in owners - {name}:
                self.weavings[other].append(("mark", lane))
        elif word in ("mark", "fall"):
            if word == "fall":
                self.untaken[lane] = again + untaken
            self.again[lane] = []
            for name in owners:
                self.weavings[name].append((word, lane))
        else:
            name, own = self.own_index(lane, index)
            part, at = (again, index) if index < len(again) else (untaken, index - len(again))
            part.pop(at)
            self.weavings[name].append((word, lane, own))

    def shows(self, name):
        return tuple((key, self.held[name][key][1]) for key in (1, 2) if self.held[name][key][:1] == (1,))

    def table(self):
        return tuple(sorted((name, key, stamp) for name in self.names for key, stamp in self.shows(name)))

    def truth(self):
        return tuple(sorted((name, self.place[name], self.now[name]) for name in self.names if self.place[name]))

    def phase(self, name):
        if self.looked is None:
            return 0
        keys = [key for key in (1, 2) if (name, key) in self.looked]
        return {0: 1, 1: 1 + sum(keys), 2: 4}[len(keys)]

    def standing_of(self, name):
        def part(entries):
            return tuple(entry[1:] for entry in entries if entry[0] == name)
        lanes = tuple((part(again), part(untaken)) for again, untaken in zip(self.again, self.untaken))
        held = (self.held[name][1], self.held[name][2])
        return plain_ranked((self.place[name], self.now[name], lanes, held, self.phase(name), (0, 0)))
