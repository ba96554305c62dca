import unittest

from checks import SearchCase, plain_walked
from given import AHEAD, APART, FEW_WAYS, SMALL_WAYS, own_rules, with_parts
from movedrows.asked import asked_rules, asking
from movedrows.reach import standings
from movedrows.rules import named_rules, rules_with
from plain import plain_asked, plain_standings, plain_steps
from plain_searches import plain_counts

LAG, SLIPS, PICTURE, PEEKS = 2, 4, 7, 8
OVER, KEY, ROW = named_rules("over"), named_rules("key"), named_rules("row")


class Asked(SearchCase):
    def assert_told(self, way, rules):
        """Check all indices, and for each one the shortest weaving."""
        counts = plain_counts(way, rules)
        with self.subTest(way=way, rules=rules):
            found = asked_rules(way, rules)
            self.assert_ascending(found)
            self.assertEqual(found, tuple(sorted(counts)))
            for index in range(27):
                weaving = asking(way, rules, index)
                if index in counts:
                    self.assertEqual(len(weaving), counts[index])
                    self.assert_asks(way, rules, index, weaving)
                else:
                    self.assertIsNone(weaving)
        return counts

    def assert_asks(self, way, rules, index, weaving):
        """Check that the weaving can be walked and that its last step asks the index."""
        self.assertIs(type(weaving), tuple)
        self.assertIn(weaving[-1][0], ("take", "look", "peek"))
        ahead = plain_walked(way, rules, weaving[:-1])
        self.assertIn(weaving[-1], plain_steps(way, ahead))
        self.assertEqual(plain_asked(way, rules, ahead, weaving[-1]), index)

    def test_all_indices_of_small_ways(self):
        seen = set()
        for way in FEW_WAYS + (with_parts(AHEAD, {LAG: 2}), with_parts(AHEAD, {PEEKS: 1, SLIPS: 1})):
            for rules in (OVER, KEY, ROW):
                seen.update(self.assert_told(way, rules))
        self.assertEqual(seen, set(range(27)))

    def test_own_rules(self):
        for number, way in enumerate(FEW_WAYS):
            self.assert_told(way, own_rules(number))

    def test_by_hand(self):
        # A way that takes one change at a time with rules that lay nothing: all is always found empty.
        nothing = (0,) * 27
        self.assertEqual(asked_rules(AHEAD, nothing), (0, 9))
        self.assertIn(asking(AHEAD, nothing, 9), ((("change", 1), ("take", 0)), (("change", 2), ("take", 0))))
        self.assertEqual(len(asking(AHEAD, nothing, 0)), 4)
        self.assertIsNone(asking(AHEAD, nothing, 1))
        self.assertEqual(asked_rules(APART, OVER), (3, 4, 5, 9, 10, 12, 13))

    def test_takes_looks_and_peeks(self):
        nothing = (0,) * 27
        self.assertIsNone(asking(AHEAD, nothing, 18))
        # An absence is asked by looks alone: of a key under which the row does not stand, once it was changed.
        peek = asking(with_parts(AHEAD, {PEEKS: 1}), nothing, 18)
        self.assertEqual([step[0] for step in peek], ["change", "peek"])
        self.assertEqual(peek[0][1] + peek[1][1], 3)
        for picture in (1, 2):
            look = asking(with_parts(AHEAD, {PICTURE: picture}), nothing, 18)
            self.assertEqual(len(look), 3)
            self.assertEqual(look[2][0], "look")
        both = with_parts(AHEAD, {PEEKS: 1, PICTURE: 1})
        self.assertEqual(asked_rules(both, nothing), (0, 9, 18))

    def test_looks_where_now_is_0_ask_nothing(self):
        # Without a change there is no weaving of looks alone that asks.
        for way in (with_parts(AHEAD, {PEEKS: 1}), with_parts(APART, {PICTURE: 1}), with_parts(AHEAD, {PICTURE: 2})):
            for rules in (OVER, KEY, own_rules(4)):
                for index in asked_rules(way, rules):
                    self.assertIn("change", [step[0] for step in asking(way, rules, index)])

    def test_what_is_needless_can_have_any_action(self):
        for way in (AHEAD, APART, with_parts(AHEAD, {PEEKS: 1})):
            asked = asked_rules(way, ROW)
            for index in range(27):
                if index not in asked:
                    for action in (0, 4):
                        others = rules_with(ROW, index, action)
                        self.assertEqual(standings(way, others), standings(way, ROW))
                        self.assertEqual(asked_rules(way, others), asked)


class Limit(SearchCase):
    def test_just_as_many_and_one_less(self):
        for way, rules in ((AHEAD, OVER), (APART, KEY), (with_parts(AHEAD, {PICTURE: 1}), ROW)):
            many = len(plain_standings(way, rules))
            self.assert_limit(many, asked_rules, way, rules)
            for index in (0, 9, 10, 26):
                self.assert_limit(many, asking, way, rules, index)

    def test_left_out_it_is_2000(self):
        # 1,984 and 2,006 standings.
        within, beyond = ((2, 0, 3, 0, 0, 0, 2, 2, 0), OVER), ((1, 1, 2, 1, 1, 1, 3, 0, 1), ROW)
        for function, more in ((asked_rules, ()), (asking, (9,)), (asking, (0,))):
            function(*within, *more)
            self.assert_exceeded(1983, function, *within, *more, limit=1983)
            self.assert_exceeded(2000, function, *beyond, *more)
            self.assert_exceeded(2000, function, *beyond, *more, limit=2000)

    def test_also_where_the_answer_could_be_told(self):
        great = (2, 1, 3, 2, 1, 1, 3, 2, 1)
        for limit in (1, 60, 2000):
            self.assert_exceeded(limit, asked_rules, great, KEY, limit=limit)
            self.assert_exceeded(limit, asking, great, KEY, 9, limit=limit)

    def test_keyword_only(self):
        self.assert_keyword_only_limit(asked_rules, AHEAD, KEY)
        self.assert_keyword_only_limit(asking, AHEAD, KEY, 9)

    def test_by_name(self):
        for way in SMALL_WAYS[:5]:
            self.assert_by_name(asked_rules, way=way, rules=ROW)
            self.assert_by_name(asking, way=way, rules=ROW, index=10)


if __name__ == "__main__":
    unittest.main()
