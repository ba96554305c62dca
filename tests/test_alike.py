import unittest

from checks import SearchCase
from given import AHEAD, APART, FEW_WAYS, SMALL_WAYS, own_rules, with_parts
from movedrows.alike import are_alike, double_standings, parting
from movedrows.rules import named_rules, rules_with
from movedrows.weavings import walked
from plain import Row, WISHES, first_of, plain_double_behind, plain_doubles, plain_parted, plain_steps, ranks
from movedrows.wishes import keeps

LAG, MARKS, SLIPS, PICTURE, PEEKS = 2, 3, 4, 7, 8
OVER, KEY, ROW = named_rules("over"), named_rules("key"), named_rules("row")
# Strikes do nothing, rows are laid: by the first table all of them, by the second one those that find no younger one.
ROWS_ALONE = ((0,) * 9 + (1,) * 9 + (0,) * 9, (0,) * 9 + (1,) * 6 + (0,) * 12)
PAIRS = ((OVER, KEY), (KEY, ROW), (OVER, ROW))


class Alike(SearchCase):
    def assert_told(self, way, rules, others):
        """Check all double standings and the shortest weaving by a plain search."""
        counts = plain_doubles(way, rules, others)
        parted = [count for double, count in counts.items() if plain_parted(way, double)]
        with self.subTest(way=way, rules=rules, others=others):
            found = double_standings(way, rules, others)
            self.assert_ascending(found)
            self.assertEqual(found, tuple(sorted(counts)))
            self.assertIs(are_alike(way, rules, others), not parted)
            weaving = parting(way, rules, others)
            if parted:
                self.assertIs(type(weaving), tuple)
                self.assertEqual(len(weaving), min(parted))
                self.assert_parts(way, rules, others, weaving)
            else:
                self.assertIsNone(weaving)
        return bool(parted)

    def assert_parts(self, way, rules, others, weaving):
        """Check that the weaving can be walked and that the two show different things at its end."""
        double = first_of(way, doubled=True)
        for step in weaving:
            self.assertIn(step, plain_steps(way, double, doubled=True))
            double = plain_double_behind(way, rules, others, double, step)
        self.assertTrue(plain_parted(way, double))

    def test_the_same_rules_twice(self):
        for way in SMALL_WAYS:
            for rules in (OVER, ROW):
                self.assertIs(are_alike(way, rules, rules), True)
                self.assertIsNone(parting(way, rules, rules))
                for double in double_standings(way, rules, rules):
                    self.assertEqual(double[3], double[5])

    def test_the_named_tables_against_one_another(self):
        seen = set()
        for way in FEW_WAYS + tuple(with_parts(AHEAD, parts) for parts in ({LAG: 2}, {PEEKS: 1}, {MARKS: 2})):
            for rules, others in PAIRS:
                seen.add(self.assert_told(way, rules, others))
        self.assertEqual(seen, {True, False})

    def test_the_other_way_round(self):
        for way in (AHEAD, APART, with_parts(APART, {SLIPS: 1})):
            for rules, others in PAIRS:
                self.assert_told(way, others, rules)
                turned = double_standings(way, others, rules)
                back = [double[:3] + (double[5], double[4], double[3]) for double in turned]
                self.assertEqual(tuple(sorted(back)), double_standings(way, rules, others))

    def test_a_table_with_one_other_action(self):
        parted = []
        for index in range(27):
            for action in (0, 3, 5):
                others = rules_with(KEY, index, action)
                parted.append(self.assert_told(APART, KEY, others))
        self.assertEqual(set(parted), {True, False})

    def test_own_rules(self):
        # Looks make too many double standings of rules that hold this and that.
        for number, way in enumerate([way for way in FEW_WAYS if way[PICTURE] == 0 and way[PEEKS] == 0]):
            self.assert_told(way, own_rules(number), own_rules(number + 50))

    def test_the_example(self):
        self.assertIs(are_alike(APART, OVER, KEY), True)
        self.assertEqual(len(parting(APART, OVER, ROW)), 4)
        self.assertIs(are_alike(APART, OVER, ROW), False)
        self.assertIsNone(parting(APART, OVER, KEY))

    def test_different_stamps_alone_are_different(self):
        # Both show a row under each key that there was; after a fall the one lays the elder row again.
        way = with_parts(AHEAD, {MARKS: 2})
        weaving = parting(way, *ROWS_ALONE)
        shown = [Row(way, walked(way, rules, weaving)).shown() for rules in ROWS_ALONE]
        self.assertNotEqual(shown[0], shown[1])
        self.assertEqual([key for key, _ in shown[0]], [key for key, _ in shown[1]])
        self.assert_told(way, *ROWS_ALONE)

    def test_strikes_and_absences_are_not_shown(self):
        # The one lays strikes, the other one empties the key: they hold different things and show the same.
        self.assertIs(are_alike(AHEAD, (1,) * 27, OVER), True)
        doubles = double_standings(AHEAD, (1,) * 27, OVER)
        self.assertTrue([double for double in doubles if double[3] != double[5]])


class DoubleStandings(SearchCase):
    def test_the_first_one(self):
        for way, lanes in ((AHEAD, (((), ()),)), (APART, (((), ()), ((), ())))):
            self.assertIn((0, 0, lanes, ((), ()), 0, ((), ())), double_standings(way, KEY, ROW))

    def test_ranks_are_over_both_sides(self):
        both = 0
        for way in (with_parts(AHEAD, {MARKS: 2}), APART, with_parts(AHEAD, {PEEKS: 1})):
            for place, now, lanes, held, phase, other in double_standings(way, *ROWS_ALONE):
                stamps = [now] + [entry[2] for lane in lanes for part in lane for entry in part]
                stamps += [slot[1] for slot in held + other if slot]
                self.assertEqual({stamp: stamp for stamp in stamps} | {0: 0}, ranks(stamps))
                one, two = {slot[1] for slot in held if slot}, {slot[1] for slot in other if slot}
                both += bool(one - two) and bool(two - one)
        self.assertGreater(both, 0)


class KeepTheSame(SearchCase):
    def test_tables_that_are_alike_keep_the_same_wishes(self):
        for way in FEW_WAYS:
            for rules, others in PAIRS:
                if are_alike(way, rules, others):
                    for word in WISHES:
                        self.assertIs(keeps(way, rules, word), keeps(way, others, word))


class Limit(SearchCase):
    def test_just_as_many_and_one_less(self):
        for way in (AHEAD, APART, with_parts(AHEAD, {MARKS: 1})):
            for rules, others in PAIRS + ((KEY, KEY),):
                many = len(plain_doubles(way, rules, others))
                for function in (double_standings, are_alike, parting):
                    with self.subTest(way=way, function=function):
                        self.assert_limit(many, function, way, rules, others)

    def test_left_out_it_is_2000(self):
        # 1,984 and 2,030 double standings.
        within, beyond = ((2, 0, 1, 0, 1, 1, 3, 1, 0), KEY, ROW), ((1, 1, 2, 2, 1, 0, 0, 0, 0), OVER, ROW)
        for function in (double_standings, are_alike, parting):
            function(*within)
            self.assert_exceeded(1983, function, *within, limit=1983)
            self.assert_exceeded(2000, function, *beyond)
            self.assert_exceeded(2000, function, *beyond, limit=2000)
        self.assertEqual(len(double_standings(*within, limit=1984)), 1984)
        self.assertEqual(len(double_standings(*beyond, limit=2030)), 2030)

    def test_also_where_the_answer_could_be_told(self):
        great = (2, 1, 3, 2, 1, 1, 3, 2, 1)
        for limit in (1, 60, 2000):
            for function in (double_standings, are_alike, parting):
                self.assert_exceeded(limit, function, great, OVER, ROW, limit=limit)
                self.assert_exceeded(limit, function, great, ROW, ROW, limit=limit)

    def test_keyword_only(self):
        for function in (double_standings, are_alike, parting):
            self.assert_keyword_only_limit(function, AHEAD, KEY, ROW)

    def test_by_name(self):
        for function in (double_standings, are_alike, parting):
            self.assert_by_name(function, way=APART, rules=OVER, others=ROW)
            self.assert_by_name(function, way=APART, rules=KEY, others=ROW)


if __name__ == "__main__":
    unittest.main()
