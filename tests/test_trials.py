import copy
import inspect
import random
import unittest

from checks import SearchCase
from given import AHEAD, APART, FEW_WAYS, LAG, PEEKS, PICTURE, PRESS, SLIPS, own_rules, with_parts
from movedrows.errors import LimitExceeded
from movedrows.rules import named_rules
from movedrows.trials import breaking_by, first_table, open_index
from movedrows.wishes import keeps
from plain import WISHES, first_of, plain_broken, plain_remembered, plain_steps
from plain_searches import NO_ACTIONS, Trial, lets, plain_break, plain_open, plain_standings_by, plain_standings_by_for

OVER, KEY, ROW = named_rules("over"), named_rules("key"), named_rules("row")


def partial_tables():
    """Return partial tables with None everywhere, at some indices, nowhere."""
    made = random.Random(9)
    tables = [NO_ACTIONS, OVER, KEY, ROW, own_rules(1), (None,) * 9 + OVER[9:18] + (None,) * 9]
    for rules in (OVER, KEY, ROW, own_rules(2)):
        for many in (1, 4, 12):
            none = made.sample(range(27), many)
            tables.append(tuple(None if index in none else action for index, action in enumerate(rules)))
            tables.append(tuple(action if index in none else None for index, action in enumerate(rules)))
    return tables


class OpenIndex(SearchCase):
    def test_none_everywhere(self):
        # A row's first entry is a row that finds nothing; slips and wipes let a strike come ahead of it.
        self.assertEqual(open_index(AHEAD, NO_ACTIONS), 9)
        self.assertEqual(open_index(with_parts(AHEAD, {SLIPS: 1}), NO_ACTIONS), 0)
        self.assertEqual(open_index(with_parts(AHEAD, {PRESS: 1, LAG: 2}), NO_ACTIONS), 0)
        self.assertEqual(open_index(with_parts(AHEAD, {PEEKS: 1}), NO_ACTIONS), 9)

    def test_looks_and_peeks_ask(self):
        table = with_parts(NO_ACTIONS, {9: 0})
        self.assertEqual(open_index(with_parts(AHEAD, {PEEKS: 1}), table), 0)
        table = with_parts(table, {0: 0})
        self.assertEqual(open_index(with_parts(AHEAD, {PEEKS: 1}), table), 18)
        self.assertEqual(open_index(with_parts(AHEAD, {PICTURE: 2}), table), 18)
        self.assertIsNone(open_index(AHEAD, table))

    def test_none_nowhere(self):
        for way in FEW_WAYS[:5]:
            for rules in (OVER, KEY, ROW, own_rules(1)):
                self.assertIsNone(open_index(way, rules))

    def test_an_index_with_none_that_no_step_asks(self):
        table = with_parts(OVER, {26: None, 18: None})
        self.assertIsNone(open_index(AHEAD, table))
        self.assertEqual(open_index(with_parts(AHEAD, {PEEKS: 1}), table), 18)

    def test_by_the_plain_telling(self):
        found = set()
        for way in FEW_WAYS[:6] + FEW_WAYS[8:9]:
            for table in partial_tables():
                with self.subTest(way=way, table=table):
                    expected = plain_open(way, table)
                    self.assertEqual(open_index(way, table), expected)
                    found.add(expected)
        self.assertTrue({None, 0, 9} < found)

    def test_the_example(self):
        self.assertEqual(open_index((1, 0, 1, 0, 0, 0, 0, 0, 0), (None,) * 27), 9)


class BreakingBy(SearchCase):
    def assert_breaks(self, way, table, word):
        """Check by the plain telling."""
        least = plain_break(way, table, word)
        with self.subTest(way=way, table=table, word=word):
            weaving = breaking_by(way, table, word)
            if least is None:
                self.assertIsNone(weaving)
                return None
            self.assertIs(type(weaving), tuple)
            self.assertEqual(len(weaving), least)
            standing = first_of(way)
            for step in weaving:
                self.assertIn(step, plain_steps(way, standing))
                self.assertTrue(lets(way, table, standing, step))
                standing = plain_remembered(way, table, word, standing, step)
            self.assertTrue(plain_broken(way, word, standing))
            return weaving

    def test_by_the_plain_telling(self):
        found = []
        for way in FEW_WAYS[:4] + FEW_WAYS[5:6]:
            for table in partial_tables():
                for word in WISHES:
                    found.append(self.assert_breaks(way, table, word))
        self.assertTrue(any(found))
        self.assertIn(None, found)

    def test_steps_that_ask_an_index_with_none_lead_nowhere(self):
        table = with_parts(OVER, {10: None})
        self.assertIsNone(breaking_by(APART, table, "one"))
        self.assertEqual(len(breaking_by(APART, OVER, "one")), 4)
        self.assertEqual(open_index(APART, table), 10)

    def test_a_weaving_that_asks_nothing(self):
        weaving = breaking_by(with_parts(AHEAD, {SLIPS: 1}), NO_ACTIONS, "ends")
        self.assertIn(weaving, ((("change", 1), ("slip", 0)), (("change", 2), ("slip", 0))))
        self.assertIsNone(breaking_by(AHEAD, NO_ACTIONS, "ends"))


# Way, wishes: small trials that come to a table, and some that do not.
TRIALS = (
    (AHEAD, ("ends",)),
    (AHEAD, ("ends", "there")),
    (AHEAD, ("one",)),
    (AHEAD, ("on", "one", "there")),
    (with_parts(AHEAD, {SLIPS: 1}), ("ends",)),
    (with_parts(AHEAD, {SLIPS: 1}), ("on", "one")),
    ((1, 1) + AHEAD[2:], ("ends", "there")),
    ((1, 1) + AHEAD[2:], ("ends", "one", "there")),
    (APART, ("ends", "one")),
    (with_parts(AHEAD, {PEEKS: 1}), ("ends",)),
)


class FirstTable(SearchCase):
    def test_by_the_plain_telling(self):
        found = []
        for way, wishes in TRIALS:
            with self.subTest(way=way, wishes=wishes):
                trial = Trial(way, wishes)
                found.append(trial.table)
                self.assertEqual(first_table(way, wishes), trial.table)
                self.assertLess(len(trial.tried), 200)
        self.assertIn(None, found)
        self.assertTrue(any(found))

    def test_the_rules_keep_all_the_wishes(self):
        for way, wishes in TRIALS:
            rules = first_table(way, wishes)
            if rules is not None:
                with self.subTest(way=way, wishes=wishes):
                    self.assertEqual((type(rules), len(rules)), (tuple, 27))
                    for word in wishes:
                        self.assertTrue(keeps(way, rules, word))

    def test_0_at_each_index_that_was_never_open(self):
        rules = first_table(AHEAD, ("ends",))
        table = tuple(None if action == 0 else action for action in rules)
        trial = Trial(AHEAD, ("ends",))
        last = trial.tried[-1]
        self.assertTrue(any(action is None for action in last))
        for action, chosen in zip(rules, last):
            self.assertEqual(action, 0 if chosen is None else chosen)
        self.assertEqual(rules[18:], (0,) * 9)
        self.assertIn(None, table)

    def test_where_nothing_is_asked_all_is_0(self):
        # "one" is kept by rules that lay nothing.
        self.assertEqual(first_table(AHEAD, ("one",)), (0,) * 27)

    def test_the_order_of_the_trial(self):
        # Ahead of an action all of the one before it is tried, with all that comes of it.
        trial = Trial(AHEAD, ("ends",))
        self.assertEqual(trial.tried[0], NO_ACTIONS)
        for many in range(1, len(trial.tried) + 1):
            self.assertEqual(trial.tried[many - 1][9] or 0, 0 if many < 3 else 1)
        firsts = [table[9] for table in trial.tried]
        self.assertEqual(firsts[:3], [None, 0, 1])
        self.assertEqual(set(firsts[2:]), {1})

    def test_the_example(self):
        ahead = (1, 0, 1, 0, 0, 0, 0, 0, 0)
        self.assertIsNone(first_table(ahead, ("ends", "there")))
        self.assertEqual(first_table(ahead, ("ends",))[9:15], (1, 1, 0, 1, 1, 0))


class Limit(SearchCase):
    def assert_tables(self, most, way, wishes, **named):
        """Check that LimitExceeded tells the tables."""
        with self.assertRaises(LimitExceeded) as caught:
            first_table(way, wishes, tables=most, **named)
        self.assertEqual(caught.exception.limit, most)

    def test_standings_of_a_partial_table(self):
        for way in (AHEAD, APART, with_parts(AHEAD, {SLIPS: 1})):
            for table in partial_tables()[:8]:
                many = len(plain_standings_by(way, table))
                with self.subTest(way=way, table=table):
                    self.assert_limit(many, open_index, way, table)

    def test_standings_with_the_memory_of_the_wish(self):
        for way in (AHEAD, APART):
            for table in partial_tables()[:8]:
                for word in WISHES:
                    many = len(plain_standings_by_for(way, table, word))
                    with self.subTest(way=way, table=table, word=word):
                        self.assert_limit(many, breaking_by, way, table, word)

    def test_just_as_many_tables(self):
        for way, wishes in TRIALS:
            trial = Trial(way, wishes)
            many = len(trial.tried)
            with self.subTest(way=way, wishes=wishes):
                self.assertEqual(first_table(way, wishes, tables=many), trial.table)
                self.assertEqual(first_table(way, wishes, tables=1000), trial.table)
                for most in {1, 2, many // 2, many - 1} - {0}:
                    if most < many:
                        self.assert_tables(most, way, wishes)

    def test_one_table_is_enough_where_the_first_one_ends_the_trial(self):
        self.assertIsNone(first_table(with_parts(AHEAD, {SLIPS: 1}), ("ends",), tables=1))

    def test_standings_of_the_tables_tried(self):
        for way, wishes in TRIALS:
            trial = Trial(way, wishes)
            with self.subTest(way=way, wishes=wishes):
                many = max(trial.counts)
                self.assertEqual(first_table(way, wishes, limit=many), trial.table)
                self.assert_exceeded(many - 1, first_table, way, wishes, limit=many - 1)
                self.assert_exceeded(1, first_table, way, wishes, limit=1)

    def test_the_memory_of_any_of_the_wishes(self):
        # Its other wishes have fewer standings: "there" alone has so many.
        few, more = max(Trial(AHEAD, ("one",)).counts), max(Trial(AHEAD, ("one", "there")).counts)
        self.assertLess(few, more)
        first_table(AHEAD, ("one",), limit=few)
        self.assert_exceeded(few, first_table, AHEAD, ("one", "there"), limit=few)

    def test_a_broken_wish_does_not_end_the_count(self):
        # "ends" is broken by the first table; the standings of "there" behind it count.
        way = with_parts(AHEAD, {SLIPS: 1})
        few, more = len(plain_standings_by(way, NO_ACTIONS)), len(plain_standings_by_for(way, NO_ACTIONS, "there"))
        self.assertLess(few, more)
        self.assertIsNone(first_table(way, ("ends",), limit=few, tables=1))
        self.assert_exceeded(few, first_table, way, ("ends", "there"), limit=few, tables=1)
        self.assertIsNone(first_table(way, ("ends", "there"), limit=more, tables=1))

    def test_tables_come_ahead_of_the_limit_of_the_same_table(self):
        trial = Trial(AHEAD, ("ends",))
        great = trial.counts.index(max(trial.counts)) + 1
        limit = max(trial.counts[:great - 1])
        self.assertLess(limit, trial.counts[great - 1])
        # The table with so many standings is one too many: that is told first.
        self.assert_tables(great - 1, AHEAD, ("ends",), limit=limit)
        self.assert_exceeded(limit, first_table, AHEAD, ("ends",), limit=limit, tables=great)
        # An earlier table with too many standings is told ahead of a later one that is one too many.
        self.assert_exceeded(limit, first_table, AHEAD, ("ends",), limit=limit, tables=1000)
        self.assert_exceeded(1, first_table, AHEAD, ("ends",), limit=1, tables=2)

    def test_left_out_they_are_200_and_2000(self):
        parameters = inspect.signature(first_table).parameters
        for name, default in (("limit", 2000), ("tables", 200)):
            self.assertEqual((parameters[name].kind, parameters[name].default), (
                inspect.Parameter.KEYWORD_ONLY, default))
        with self.assertRaises(TypeError):
            first_table(AHEAD, ("ends",), 2000)
        great = (2, 1, 3, 2, 1, 1, 3, 2, 1)
        self.assert_exceeded(2000, first_table, great, ("one",))
        self.assert_exceeded(2000, open_index, great, OVER)
        self.assert_exceeded(2000, breaking_by, great, OVER, "one")
        # This trial needs more than 1,000 partial tables, each with few standings.
        self.assert_exceeded(200, first_table, with_parts(AHEAD, {LAG: 2, PRESS: 1}), ("ends", "there"))

    def test_keyword_only(self):
        self.assert_keyword_only_limit(open_index, AHEAD, NO_ACTIONS)
        self.assert_keyword_only_limit(breaking_by, AHEAD, NO_ACTIONS, "one")

    def test_by_name(self):
        table = with_parts(OVER, {10: None})
        self.assert_by_name(open_index, way=APART, table=table)
        self.assert_by_name(breaking_by, way=APART, table=table, word="ends")
        self.assert_by_name(first_table, way=AHEAD, wishes=("ends",))
        self.assertEqual(first_table(tables=200, limit=2000, wishes=("ends",), way=AHEAD), first_table(AHEAD, ("ends",)))

    def test_nothing_changes(self):
        handed = (AHEAD, ("ends", "there"), NO_ACTIONS)
        kept = copy.deepcopy(handed)
        first_table(*handed[:2])
        open_index(handed[0], handed[2])
        breaking_by(handed[0], handed[2], "there")
        self.assertEqual(handed, kept)


if __name__ == "__main__":
    unittest.main()
