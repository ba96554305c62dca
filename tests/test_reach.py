import unittest

from checks import SearchCase, plain_walked
from given import AHEAD, APART, SMALL_WAYS, own_rules, with_other_stamps, with_parts
from movedrows.reach import least_steps, standings, weaving_to
from movedrows.rules import named_rules
from movedrows.standings import first_standing
from plain import plain_behind, plain_ranked, plain_standings, plain_steps

LAG, MARKS, SLIPS = 2, 3, 4
OVER, KEY, ROW = named_rules("over"), named_rules("key"), named_rules("row")

# A way and rules with 1,984 standings, and some with 2,006.
JUST_WITHIN = ((2, 0, 3, 0, 0, 0, 2, 2, 0), OVER)
JUST_BEYOND = ((1, 1, 2, 1, 1, 1, 3, 0, 1), ROW)

GREAT = 10 ** 30


class Reach(SearchCase):
    def assert_all(self, way, rules):
        """Check all standings and their steps by a plain search."""
        counts = plain_standings(way, rules)
        found = standings(way, rules)
        with self.subTest(way=way, rules=rules):
            self.assert_ascending(found)
            self.assertEqual(found, tuple(sorted(counts)))
            steps = least_steps(way, rules)
            self.assertIs(type(steps), tuple)
            self.assertEqual(steps, tuple(counts[standing] for standing in found))
        return counts

    def test_small_ways(self):
        for way in SMALL_WAYS:
            for rules in (OVER, KEY, ROW):
                self.assert_all(way, rules)

    def test_own_rules(self):
        for number, way in enumerate(SMALL_WAYS):
            self.assert_all(way, own_rules(number))

    def test_each_has_the_form_told(self):
        for way in SMALL_WAYS:
            for standing in standings(way, KEY):
                self.assertEqual(standing, plain_ranked(standing))
                self.assertEqual(standing[5], (0, 0))

    def test_by_hand(self):
        # All that a way of one lane does with rules that lay nothing.
        nothing = (0,) * 27
        one, other = ((1, 1, 1),), ((2, 1, 1),)
        told = [
            (0, 0, (), 0), (1, 1, one, 1), (2, 1, other, 1), (1, 1, (), 2), (2, 1, (), 2),
            (0, 1, ((1, 0, 1),), 3), (0, 1, ((2, 0, 1),), 3), (2, 1, ((1, 0, 1), (2, 1, 1)), 3),
            (1, 1, ((2, 0, 1), (1, 1, 1)), 3), (0, 1, (), 4)]
        expected = {(place, now, (((), part),), ((), ()), 0, (0, 0)): count for place, now, part, count in told}
        self.assertEqual(standings(AHEAD, nothing), tuple(sorted(expected)))
        self.assertEqual(least_steps(AHEAD, nothing), tuple(expected[key] for key in sorted(expected)))

    def test_first_has_no_effect_with_two_lanes(self):
        self.assertEqual(standings(APART, KEY), standings(with_parts(APART, {1: 1}), KEY))
        self.assertNotEqual(standings(AHEAD, KEY), standings(with_parts(AHEAD, {1: 1}), KEY))


class WeavingTo(SearchCase):
    def assert_leads(self, way, rules, standing, many):
        weaving = weaving_to(way, rules, standing)
        self.assertIs(type(weaving), tuple)
        self.assertEqual(plain_walked(way, rules, weaving), plain_ranked(standing))
        self.assertEqual(len(weaving), many)

    def test_the_first_standing(self):
        for way in SMALL_WAYS:
            self.assertEqual(weaving_to(way, ROW, first_standing(way)), ())

    def test_each_standing(self):
        for way, rules in (
                (AHEAD, KEY), (APART, OVER), (with_parts(AHEAD, {MARKS: 1}), ROW), (with_parts(AHEAD, {7: 1}), KEY),
                (with_parts(APART, {SLIPS: 1, 6: 2}), ROW)):
            for standing, many in plain_standings(way, rules).items():
                with self.subTest(way=way, standing=standing):
                    self.assert_leads(way, rules, standing, many)

    def test_stamps_that_are_no_ranks(self):
        way = with_parts(APART, {LAG: 2})
        for at, (standing, many) in enumerate(plain_standings(way, KEY).items()):
            if at % 9 == 0:
                self.assert_leads(way, KEY, with_other_stamps(standing, lambda stamp: stamp * 7), many)
                self.assert_leads(way, KEY, with_other_stamps(standing, lambda stamp: GREAT + stamp ** 2), many)

    def test_what_is_none_of_them(self):
        weaving = (("change", 1), ("take", 0), ("change", 2), ("take", 1))
        reached = plain_walked(APART, OVER, weaving)
        self.assert_leads(APART, OVER, reached, 4)
        for other in (
                (0,) + reached[1:], (1,) + reached[1:], reached[:4] + (1, (0, 0)), reached[:1] + (0,) + reached[2:],
                reached[:3] + (((1, 1), (2, 2)), 0, (0, 0)), reached[:3] + (((1, 2), (1, 2)), 0, (0, 0)),
                reached[:3] + (((1, 2), (1, 1)), 0, (0, 0))):
            self.assertIsNone(weaving_to(APART, OVER, other))
        self.assertIsNone(weaving_to(APART, ROW, reached))
        self.assertIsNone(weaving_to(AHEAD, OVER, (1, 1, (((), ((2, 1, 1),)),), ((), ()), 0, (0, 0))))

    def test_a_step_further_than_all_limits_of_a_way(self):
        # Two changes ahead can be with a lag of 2, but not with one of 1.
        far = (1, 2, (((), ((1, 1, 1), (1, 1, 2))),), ((), ()), 0, (0, 0))
        self.assertIsNone(weaving_to(AHEAD, OVER, far))
        self.assert_leads(with_parts(AHEAD, {LAG: 2}), OVER, far, 2)


class Limit(SearchCase):
    def test_just_as_many_and_one_less(self):
        none_of_them = (0, 1, (((), ()),), ((1, 1), (1, 1)), 0, (0, 0))
        for way, rules in ((AHEAD, OVER), (AHEAD, KEY), (with_parts(AHEAD, {MARKS: 1}), ROW), (APART, ROW)):
            found = sorted(plain_standings(way, rules))
            for function in (standings, least_steps):
                self.assert_limit(len(found), function, way, rules)
            for standing in (first_standing(way), found[1], found[len(found) // 2], found[-1]):
                self.assert_limit(len(found), weaving_to, way, rules, standing)
            if way[0] == 1:
                self.assertIsNone(weaving_to(way, rules, none_of_them))
                self.assert_limit(len(found), weaving_to, way, rules, none_of_them)

    def test_left_out_it_is_2000(self):
        self.assertEqual(len(standings(*JUST_WITHIN)), 1984)
        self.assertEqual(len(least_steps(*JUST_WITHIN)), 1984)
        self.assertEqual(weaving_to(*JUST_WITHIN, first_standing(JUST_WITHIN[0])), ())
        for function, more in ((standings, ()), (least_steps, ()), (weaving_to, (first_standing(JUST_BEYOND[0]),))):
            self.assert_exceeded(2000, function, *JUST_BEYOND, *more)
            self.assert_exceeded(2000, function, *JUST_BEYOND, *more, limit=2000)
            self.assert_exceeded(1983, function, *JUST_WITHIN, *more, limit=1983)
        self.assertEqual(len(standings(*JUST_WITHIN, limit=1984)), 1984)

    def test_great_ways(self):
        for way in ((2, 1, 3, 2, 1, 1, 3, 2, 1), (1, 0, 3, 2, 1, 1, 3, 1, 1)):
            for limit in (1, 7, 500, 2000):
                self.assert_exceeded(limit, standings, way, KEY, limit=limit)
                self.assert_exceeded(limit, least_steps, way, KEY, limit=limit)
                self.assert_exceeded(limit, weaving_to, way, KEY, first_standing(way), limit=limit)

    def test_keyword_only(self):
        self.assert_keyword_only_limit(standings, AHEAD, KEY)
        self.assert_keyword_only_limit(least_steps, AHEAD, KEY)
        self.assert_keyword_only_limit(weaving_to, AHEAD, KEY, first_standing(AHEAD))

    def test_by_name(self):
        self.assert_by_name(standings, way=APART, rules=ROW)
        self.assert_by_name(least_steps, way=APART, rules=ROW)
        standing = plain_behind(APART, ROW, first_standing(APART), plain_steps(APART, first_standing(APART))[0])
        self.assert_by_name(weaving_to, way=APART, rules=ROW, standing=standing)


if __name__ == "__main__":
    unittest.main()
