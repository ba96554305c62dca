"""Houses by drawn deeds: what each row is told, and what the table of point 3 says of houses."""

import random
import unittest

from claimed import BACKS, INDICES, KEY, LOGS, MENDS, OVER, PAIRS, ROW, SETTINGS, TRIALS
from given import AHEAD, LAG, PRESS, own_rules, ways_of_all_kinds, with_parts
from housed import NAMES, HouseCase, deeds_for, deeds_of, done, drawn_deed, house_with
from movedrows.back import back_from
from movedrows.checker import first_fault
from movedrows.claims import decide
from movedrows.house import House
from movedrows.mends import with_choice
from movedrows.rules import rules_with
from movedrows.weavings import log_of, walked
from plain import READERS_WORDS, WISHES, plain_steps, plain_weight
from plain_house import PlainHouse

# Ways in which much can be done.
FULL_WAYS = (
    (1, 0, 3, 2, 1, 1, 3, 1, 1), (2, 0, 3, 2, 1, 1, 3, 2, 1), (1, 1, 2, 1, 1, 1, 2, 2, 0), (2, 1, 2, 2, 0, 1, 1, 1, 1),
    (2, 0, 1, 0, 1, 0, 2, 0, 1), (1, 0, 3, 0, 0, 1, 3, 0, 0))


class Drawn(HouseCase):
    def assert_same(self, way, rules, names, made, many, every=10):
        """Do drawn deeds to a house and to a plain one, whether they can be done or not."""
        house, plain = House(way, rules, names), PlainHouse(way, rules, names)
        refused = 0
        for number in range(many):
            deed = drawn_deed(made, names)
            if plain.can(deed):
                self.assertIsNone(done(house, deed), (deed, plain.done))
                plain.do(deed)
            else:
                refused += 1
                self.assertEqual(done(house, deed), "CannotStep", (deed, plain.done))
            if number % every == 0:
                self.assert_plain(house, plain)
        self.assert_plain(house, plain)
        self.assert_broken(house, plain)
        for name in names:
            self.assertEqual(walked(way, rules, house.weaving_of(name)), house.standing_of(name))
        return len(house), refused

    def test_by_the_plain_telling(self):
        made = random.Random(1)
        for number, way in enumerate(FULL_WAYS + tuple(ways_of_all_kinds()[:20])):
            for rules in (OVER, own_rules(number)):
                names = NAMES[:1 + number % 6]
                with self.subTest(way=way, rules=rules, names=names):
                    count, refused = self.assert_same(way, rules, names, made, 150)
                    self.assertTrue(count > 5 and refused > 5)

    def test_long_ones(self):
        made = random.Random(2)
        for way in FULL_WAYS[:3]:
            for rules in (KEY, ROW):
                count, _ = self.assert_same(way, rules, NAMES[:3], made, 1500, every=150)
                self.assertGreater(count, 200)

    def test_each_break_gives_a_paper_that_is_accepted(self):
        made = random.Random(3)
        met = set()
        for number, way in enumerate(FULL_WAYS):
            for rules in (OVER, KEY, ROW, own_rules(number)):
                house = house_with(way, rules, NAMES[:3], deeds_of(way, rules, NAMES[:3], made, 200))
                for word in WISHES:
                    for name, steps in house.broken(word):
                        paper = house.paper_of(name, word)
                        self.assertIsNone(first_fault(paper))
                        self.assertEqual(len(paper[2]), steps)
                        met.add(word)
        self.assertEqual(met, set(WISHES))

    def test_a_row_among_many_does_what_a_row_alone_can_do(self):
        made = random.Random(4)
        for way in FULL_WAYS:
            deeds = deeds_of(way, ROW, NAMES[:4], made, 150)
            house = house_with(way, ROW, NAMES[:4], deeds)
            for name in NAMES[:4]:
                alone = house_with(way, ROW, (name,), deeds_for(name, house.weaving_of(name)))
                self.assertEqual(alone.standing_of(name), house.standing_of(name))
                self.assertEqual(alone.shows(name), house.shows(name))
                self.assertEqual(alone.weaving_of(name), house.weaving_of(name))


class Guarantees(HouseCase):
    """What an accepted certificate means in houses, by the table of point 3."""

    def houses(self, way, rules, many=6, size=120):
        """Yield houses of one row and of several, with drawn deeds."""
        made = random.Random(repr((way, rules)))
        for number in range(many):
            names = NAMES[:(1, 2, 3, 1, 2, 6)[number % 6]]
            yield names, house_with(way, rules, names, deeds_of(way, rules, names, made, size))

    def test_keeps_shown(self):
        for way, rules, word in SETTINGS:
            told = decide(("keeps", way, rules, word))
            self.assertIsNone(first_fault(told))
            met = False
            for names, house in self.houses(way, rules):
                met = met or house.broken(word) != ()
                if told[0] == "shown":
                    self.assertEqual(house.broken(word), ())
            if told[0] == "broken":
                house = house_with(way, rules, ("a",), deeds_for("a", told[2]))
                self.assertEqual(house.broken(word), (("a", len(told[2])),))

    def test_wide_and_narrow(self):
        # A paper of a wider way serves for this one, one of a narrower way breaks this one, too.
        wide = with_parts(AHEAD, {LAG: 2, PRESS: 1})
        for way, rules, word in SETTINGS:
            if way == AHEAD:
                verdict, _, paper = decide(("keeps", wide, rules, word))
                if verdict == "shown":
                    self.assertIsNone(first_fault(("shown", ("keeps", way, rules, word), ("wide", wide, paper))))
                    for _, house in self.houses(way, rules):
                        self.assertEqual(house.broken(word), ())
                verdict, _, paper = decide(("keeps", way, rules, word))
                if verdict == "broken":
                    self.assertIsNone(first_fault(("broken", ("keeps", wide, rules, word), ("narrow", way, paper))))
                    house = house_with(wide, rules, ("a",), deeds_for("a", paper))
                    self.assertNotEqual(house.broken(word), ())

    def test_soonest_shown(self):
        met = 0
        for way, rules, word in SETTINGS:
            weaving = decide(("keeps", way, rules, word))[2]
            many = len(weaving) if decide(("keeps", way, rules, word))[0] == "broken" else None
            self.assertIsNone(first_fault(decide(("soonest", way, rules, word, many))))
            for _, house in self.houses(way, rules):
                for _, steps in house.broken(word):
                    self.assertGreaterEqual(steps, many)
                    met += 1
        self.assertGreater(met, 10)

    def test_alike_shown(self):
        for way, rules, others in PAIRS:
            told = decide(("alike", way, rules, others))
            made = random.Random(repr(rules))
            if told[0] == "shown":
                for names in (NAMES[:1], NAMES[:3]):
                    self.assert_same_deeds(House(way, rules, names), House(way, others, names), names, made)
            else:
                one, other = [house_with(way, table, ("a",), deeds_for("a", told[2])) for table in (rules, others)]
                self.assertNotEqual(one.shows("a"), other.shows("a"))

    def assert_same_deeds(self, one, other, names, made):
        """Do the same drawn deeds to two houses: the same are refused, and they tell the same."""
        for _ in range(150):
            deed = drawn_deed(made, names)
            self.assertEqual(done(one, deed), done(other, deed))
            self.assertEqual((one.table(), one.truth(), one.deeds()), (other.table(), other.truth(), other.deeds()))
        for word in WISHES:
            self.assertEqual(one.broken(word), other.broken(word))

    def test_needless_shown(self):
        for way, rules, index in INDICES:
            told = decide(("needless", way, rules, index))
            made = random.Random(index)
            for action in (0, 4, 5):
                others = rules_with(rules, index, action)
                if told[0] == "shown":
                    one, other = House(way, rules, NAMES[:2]), House(way, others, NAMES[:2])
                    self.assert_same_deeds(one, other, NAMES[:2], made)
                    for name in NAMES[:2]:
                        self.assertEqual(one.standing_of(name), other.standing_of(name))
                        self.assertEqual(one.weaving_of(name), other.weaving_of(name))
                    for lane in range(way[0]):
                        self.assertEqual(one.lane(lane), other.lane(lane))
                    self.assertNotIn(index, one.asked())
            if told[0] == "broken":
                self.assertIn(index, house_with(way, rules, ("a",), deeds_for("a", told[2])).asked())

    def test_back_shown(self):
        for way, rules, weights in BACKS:
            verdict, claim, paper = decide(("back", way, rules, weights, None))
            if verdict == "shown":
                self.assert_lost(way, rules, paper[0])
                continue
            most = max(weight for weight, _ in paper[2])
            self.assertIsNone(first_fault(decide(("back", way, rules, weights, most))))
            made = random.Random(repr(weights))
            for size in (0, 5, 20, 60, 100):
                house = house_with(way, rules, ("a",), deeds_of(way, rules, ("a",), made, size))
                steps = back_from(way, rules, weights, house.standing_of("a"))
                self.assertLessEqual(sum(plain_weight(weights, step) for step in steps), most)
                for deed in deeds_for("a", steps):
                    self.assertIsNone(done(house, deed))
                self.assertEqual(house.table(), house.truth())
                for lane in range(way[0]):
                    self.assertEqual(house.lane(lane)[1], ())
                self.assertEqual(house.standing_of("a")[4], 0)

    def assert_lost(self, way, rules, weaving):
        """Check that no drawn deeds of the reader put it right after the weaving."""
        made = random.Random(5)
        for _ in range(10):
            house = house_with(way, rules, ("a",), deeds_for("a", weaving))
            for _ in range(30):
                untaken = any(house.lane(lane)[1] for lane in range(way[0]))
                self.assertFalse(house.table() == house.truth() and not untaken and house.standing_of("a")[4] == 0)
                steps = [step for step in plain_steps(way, house.standing_of("a")) if step[0] in READERS_WORDS]
                if steps:
                    self.assertIsNone(done(house, deeds_for("a", (made.choice(steps),))[0]))

    def test_mend_shown(self):
        for way, rules, wishes, options in MENDS:
            verdict, claim, paper = decide(("mend", way, rules, wishes, options, None))
            if verdict == "broken":
                mended, others = with_choice(way, rules, options, paper[1])
                for _, house in self.houses(mended, others):
                    for word in wishes:
                        self.assertEqual(house.broken(word), ())

    def test_log_broken(self):
        met = False
        for way, rules, log in LOGS:
            verdict = decide(("log", way, rules, log))[0]
            for names, house in self.houses(way, rules):
                for name in names:
                    weaving = house.weaving_of(name)
                    logs = {log_of(way, rules, weaving[:many]) for many in range(len(weaving) + 1)}
                    met = met or log in logs
                    if verdict == "broken":
                        self.assertNotIn(log, logs)
        self.assertTrue(met)

    def test_none_shown(self):
        made = random.Random(6)
        for way, wishes in TRIALS:
            verdict, _, tree = decide(("none", way, wishes))
            if verdict == "shown":
                for rules in (OVER, KEY, ROW) + tuple(tuple(made.randrange(6) for _ in range(27)) for _ in range(40)):
                    leaf = tree
                    while not isinstance(leaf[0], str):
                        leaf = leaf[1][rules[leaf[0]]]
                    house = house_with(way, rules, ("a",), deeds_for("a", leaf[1]))
                    self.assertIn("a", [name for name, _ in house.broken(leaf[0])])
                    paper = house.paper_of("a", leaf[0])
                    self.assertIsNone(first_fault(paper))


if __name__ == "__main__":
    unittest.main()
