"""The document told a second time, as plainly as can be, for the tests to check the program's answers by.

Nothing of the program is used here.
"""

WORDS = ("change", "take", "slip", "mark", "fall", "press", "wipe", "picture", "look", "end", "peek")
READERS_WORDS = ("take", "mark", "picture", "look", "end", "peek")
WISHES = ("one", "there", "on", "ends")


def ranks(stamps):
    """Return a dict from each stamp above 0 to its rank, and from 0 to 0."""
    order = sorted(set(stamps) - {0})
    return {0: 0} | {stamp: order.index(stamp) + 1 for stamp in order}


def plain_ranked(standing):
    """Return the standing with ranks."""
    place, now, lanes, held, phase, (begun, least) = standing
    stamps = [now, least]
    stamps += [entry[2] for lane in lanes for part in lane for entry in part]
    stamps += [slot[1] for slot in held if slot]
    rank = ranks(stamps)
    lanes = tuple(tuple(tuple((k, kind, rank[s]) for k, kind, s in part) for part in lane) for lane in lanes)
    held = tuple((slot[0], rank[slot[1]]) if slot else () for slot in held)
    return (place, rank[now], lanes, held, phase, (begun, rank[least]))


def first_of(way, doubled=False):
    """Return the first standing, or the first double standing."""
    return (0, 0, (((), ()),) * way[0], ((), ()), 0, ((), ()) if doubled else (0, 0))


def finds(slot, kind, stamp):
    """Return what an entry finds where the slot is held."""
    if not slot:
        return 0
    held_kind, held_stamp = slot
    if held_stamp != stamp:
        return 1 if held_stamp < stamp else 2
    return 1 if held_kind < kind else 2


class Row:
    """A row with its lanes and with one reader or two, in the standing or the double standing."""

    def __init__(self, way, standing, doubled=False):
        self.way = way
        (self.lane_count, self.first, self.lag, self.marks, self.slips,
         self.press, self.wipe, self.picture, self.peeks) = way
        self.place, self.now, lanes, held, self.phase, last = standing
        self.again = [list(lane[0]) for lane in lanes]
        self.untaken = [list(lane[1]) for lane in lanes]
        self.doubled = doubled
        self.readers = [dict(zip((1, 2), held))]
        self.memory = [0, 0]
        if doubled:
            self.readers.append(dict(zip((1, 2), last)))
        else:
            self.memory = list(last)
        # The indices that the steps done so far have asked of the first reader's rules.
        self.asked = []

    def stamps(self):
        """Return all stamps."""
        told = [entry[2] for part in self.again + self.untaken for entry in part]
        held = [slot[1] for reader in self.readers for slot in reader.values() if slot]
        return [self.now, self.memory[1]] + told + held

    def standing(self):
        """Return the standing, or the double standing, with ranks."""
        rank = ranks(self.stamps())

        def ranked_part(part):
            return tuple((key, kind, rank[stamp]) for key, kind, stamp in part)

        def ranked_reader(reader):
            return tuple((reader[key][0], rank[reader[key][1]]) if reader[key] else () for key in (1, 2))

        lanes = tuple((ranked_part(self.again[k]), ranked_part(self.untaken[k])) for k in range(self.lane_count))
        last = ranked_reader(self.readers[1]) if self.doubled else (self.memory[0], rank[self.memory[1]])
        return (self.place, rank[self.now], lanes, ranked_reader(self.readers[0]), self.phase, last)

    def shown(self, reader=0):
        """Return the (key, stamp) of the rows that are shown."""
        held = self.readers[reader]
        return tuple((key, held[key][1]) for key in (1, 2) if held[key] and held[key][0] == 1)

    def tell(self, later):
        """Return a list of (lane, entry) of the change to the later place."""
        stamp = max(self.stamps()) + 1
        entries = []
        if self.place in (1, 2) and later != self.place:
            entries.append((self.place, 0, stamp))
        if later in (1, 2):
            entries.append((later, 1, stamp))
        if self.lane_count == 1 and self.first == 1:
            entries.reverse()
        if self.phase != 0 and self.picture == 2:
            entries = []
        return [(entry[0] - 1 if self.lane_count == 2 else 0, entry) for entry in entries]

    def can_change(self, later):
        if later not in (0, 1, 2) or (self.place == 0 and later == 0):
            return False
        told = self.tell(later)
        for k in range(self.lane_count):
            stamps = {entry[2] for entry in self.untaken[k]} | {entry[2] for lane, entry in told if lane == k}
            if len(stamps) > self.lag:
                return False
        return True

    def can_lane(self, word, k):
        if k not in range(self.lane_count):
            return False
        if word == "take":
            full = self.marks > 0 and len(self.again[k]) >= self.marks
            return self.phase == 0 and bool(self.untaken[k]) and not full
        if word == "slip":
            return self.slips == 1 and self.phase == 0 and bool(self.untaken[k])
        return bool(self.again[k])

    def can_index(self, word, k, i):
        if k not in range(self.lane_count):
            return False
        entries = self.again[k] + self.untaken[k]
        if i not in range(len(entries)):
            return False
        key, kind, _ = entries[i]
        if word == "press":
            return self.press == 1 and key in [entry[0] for entry in entries[i + 1:]]
        ahead = key in [entry[0] for entry in entries[:i]]
        lets = {
            0: False,
            1: not ahead and i < len(self.again[k]),
            2: not ahead,
            3: True,
        }
        return kind == 0 and lets[self.wipe]

    def can(self, step):
        """Return whether the step, which has the form of one, can be done."""
        word, rest = step[0], step[1:]
        if word == "change":
            return self.can_change(*rest)
        if word in ("take", "slip", "mark", "fall"):
            return self.can_lane(word, *rest)
        if word in ("press", "wipe"):
            return self.can_index(word, *rest)
        if word == "picture":
            return self.picture != 0 and self.phase == 0
        if word == "look":
            return rest[0] in (1, 2) and (self.phase == 1 or self.phase == 4 - rest[0])
        if word == "end":
            return self.phase == 4
        return rest[0] in (1, 2) and self.peeks == 1 and self.phase == 0

    def ask(self, tables, key, kind, stamp):
        """Let an entry ask its rule of each reader."""
        for table, held, told in zip(tables, self.readers, (self.asked, [])):
            other = 3 - key
            index = kind * 9 + finds(held[key], kind, stamp) * 3 + finds(held[other], kind, stamp)
            told.append(index)
            action = table[index]
            if action == 1:
                held[key] = (kind, stamp)
            elif action == 2:
                held[key], held[other] = (kind, stamp), ()
            elif action == 3:
                held[key] = ()
            elif action == 4:
                held[key], held[other] = (), ()
            elif action == 5:
                held[other] = ()

    def look(self, tables, key):
        """Look at a key."""
        if self.now != 0:
            self.ask(tables, key, 1 if self.place == key else 2, self.now)

    def do(self, tables, step):
        """Do a step that can be done."""
        word, rest = step[0], step[1:]
        if word == "change":
            told, self.now, self.place = self.tell(rest[0]), max(self.stamps()) + 1, rest[0]
            for lane, entry in told:
                self.untaken[lane].append(entry)
        elif word == "take":
            entry = self.untaken[rest[0]].pop(0)
            self.ask(tables, *entry)
            if self.marks != 0:
                self.again[rest[0]].append(entry)
        elif word == "slip":
            self.untaken[rest[0]].pop(0)
            self.again[rest[0]] = []
        elif word == "mark":
            self.again[rest[0]] = []
        elif word == "fall":
            self.untaken[rest[0]] = self.again[rest[0]] + self.untaken[rest[0]]
            self.again[rest[0]] = []
        elif word in ("press", "wipe"):
            lane, index = rest
            many = len(self.again[lane])
            if index < many:
                self.again[lane].pop(index)
            else:
                self.untaken[lane].pop(index - many)
        elif word == "picture":
            self.again = [[] for _ in self.again]
            self.untaken = [[] for _ in self.untaken]
            self.phase = 1
        elif word == "look":
            self.look(tables, rest[0])
            self.phase = {1: {1: 2, 2: 3}[rest[0]]}.get(self.phase, 4)
        elif word == "end":
            self.phase = 0
        else:
            self.look(tables, rest[0])


def forms(most):
    """Return all steps by their form, a little beyond what there is; most is that of the indices."""
    steps = [("change", place) for place in range(-1, 4)]
    steps += [(word, lane) for word in ("take", "slip", "mark", "fall") for lane in range(-1, 3)]
    steps += [(word, lane, i) for word in ("press", "wipe") for lane in range(-1, 3) for i in range(-1, most + 1)]
    steps += [("picture",), ("end",)] + [(word, key) for word in ("look", "peek") for key in range(-1, 4)]
    return steps


def plain_steps(way, standing, doubled=False):
    """Return the tuple of all steps that can be done, in their order."""
    row = Row(way, standing, doubled)
    most = max(len(again) + len(untaken) for again, untaken in zip(row.again, row.untaken))
    steps = [step for step in forms(most) if row.can(step)]
    return tuple(sorted(steps, key=lambda step: (WORDS.index(step[0]), step)))


def plain_behind(way, rules, standing, step):
    """Return the standing after a step that can be done."""
    row = Row(way, standing)
    row.do([rules], step)
    return row.standing()


def plain_asked(way, rules, standing, step):
    """Return the index that a step which can be done asks, or None."""
    row = Row(way, standing)
    row.do([rules], step)
    return row.asked[0] if row.asked else None


def plain_remembered(way, rules, word, standing, step):
    """Return the standing after a step from a standing with its memory, with the memory of the wish."""
    row = Row(way, standing)
    row.do([rules], step)
    stamps = [stamp for _, stamp in row.shown()]
    if word == "there":
        if standing[0] == 0:
            row.memory = [0, row.now]
        if row.place == 0:
            row.memory = [0, 0]
        elif row.memory[0] == 0 and [stamp for stamp in stamps if stamp >= row.memory[1]]:
            row.memory = [1, 0]
    elif word == "on":
        row.memory = [0, max(stamps + [row.memory[1]])]
    else:
        row.memory = [0, 0]
    return row.standing()


def plain_true(standing, row):
    """Return whether what the row shows is just what is so."""
    return row.shown() == (((standing[0], standing[1]),) if standing[0] else ())


def plain_quiet(standing):
    """Return whether the phase is 0 and nothing is untaken."""
    return standing[4] == 0 and not any(untaken for _, untaken in standing[2])


def plain_broken(way, word, standing):
    """Return whether the wish is broken in a standing with its memory."""
    row = Row(way, standing)
    stamps = [stamp for _, stamp in row.shown()]
    if word == "one":
        return len(stamps) == 2
    if word == "there":
        return row.memory[0] == 1 and not stamps
    if word == "on":
        return bool(stamps) and max(stamps) < row.memory[1]
    return plain_quiet(standing) and not plain_true(standing, row)


def search(first, after_all):
    """Return a dict from all that can be reached to the least number of steps, level by level.

    after_all(state) gives the states after it.
    """
    levels, level, count = {first: 0}, {first}, 0
    while level:
        count += 1
        level = {after for state in level for after in after_all(state) if after not in levels}
        for state in level:
            levels[state] = count
    return levels


def plain_standings(way, rules):
    """Return a dict from each standing to the least number of steps to it."""
    return search(first_of(way), lambda standing: [
        plain_behind(way, rules, standing, step) for step in plain_steps(way, standing)])


def plain_standings_for(way, rules, word):
    """Return a dict from each standing with the memory of the wish to the least number of steps to it."""
    return search(first_of(way), lambda standing: [
        plain_remembered(way, rules, word, standing, step) for step in plain_steps(way, standing)])


def plain_keeps(way, rules, word):
    """Return whether the wish is kept."""
    return not any(plain_broken(way, word, standing) for standing in plain_standings_for(way, rules, word))


def plain_double_behind(way, rules, others, double, step):
    """Return the double standing after a step that can be done."""
    row = Row(way, double, doubled=True)
    row.do([rules, others], step)
    return row.standing()


def plain_doubles(way, rules, others):
    """Return a dict from each double standing to the least number of steps to it."""
    return search(first_of(way, doubled=True), lambda double: [
        plain_double_behind(way, rules, others, double, step) for step in plain_steps(way, double, doubled=True)])


def plain_parted(way, double):
    """Return whether what the two readers show differs."""
    row = Row(way, double, doubled=True)
    return row.shown(0) != row.shown(1)


def plain_weight(weights, step):
    """Return the weight of a reader's step."""
    names = ("take0", "take1", "mark0", "mark1", "picture", "look", "end", "peek")
    return weights[names.index(step[0] + str(step[1]) if step[0] in ("take", "mark") else step[0])]


def plain_ways_back(way, rules, weights, standings):
    """Return a dict from each standing to its way back, or None: put better until nothing betters it."""
    least = {standing: None for standing in standings}
    edges = []
    for standing in standings:
        if plain_quiet(standing) and plain_true(standing, Row(way, standing)):
            least[standing] = 0
        for step in plain_steps(way, standing):
            if step[0] in READERS_WORDS:
                weight = plain_weight(weights, step)
                edges.append((standing, weight, plain_behind(way, rules, standing, step)))
    bettered = True
    while bettered:
        bettered = False
        for standing, weight, after in edges:
            if least[after] is not None:
                found = least[after] + weight
                if least[standing] is None or found < least[standing]:
                    least[standing] = found
                    bettered = True
    return least
