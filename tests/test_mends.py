import copy
import inspect
import itertools
import types
import unittest

from checks import SearchCase
from claimed import BEHIND, MENDLESS
from given import AHEAD, APART, MOST, NO_INTEGERS, NO_TUPLES, SLIPS, WIPE, nested, own_rules, with_parts
from movedrows.errors import InvalidOptions
from movedrows.mends import cheapest_mend, choices, require_options, with_choice
from movedrows.rules import named_rules
from plain import plain_standings_for
from plain_searches import plain_choices, plain_mend, plain_mend_counts

OVER, KEY, ROW = named_rules("over"), named_rules("key"), named_rules("row")
GREAT = 10 ** 30
LEAST = (1, 0, 1, 0, 0, 0, 0, 0, 0)
GREATEST = (2,) + MOST[1:]

# Two lanes that make two rows shown, and what mends this: one lane, or rules that empty the other key.
TO_ONE_LANE = (0, 1, 5)


class RequireOptions(unittest.TestCase):
    def assert_invalid(self, value, index):
        kept = copy.deepcopy(value)
        with self.assertRaises(InvalidOptions) as caught:
            require_options(value)
        self.assertEqual(caught.exception.index, index)
        self.assertEqual(value, kept)

    def assert_valid(self, value):
        self.assertIs(require_options(value), value)
        self.assertIs(require_options(value=value), value)

    def test_one_to_three(self):
        for many in (1, 2, 3):
            self.assert_valid(((0, 1, 5), (9, 5, 0), (35, 0, 99))[:many])
        self.assert_valid((TO_ONE_LANE,) * 3)

    def test_another_length(self):
        for many in (0, 4, 5, 1000):
            self.assert_invalid((TO_ONE_LANE,) * many, None)
        # The length is told ahead of the options.
        self.assert_invalid((None,) * 4, None)

    def test_no_tuple(self):
        for value in NO_TUPLES + ([TO_ONE_LANE], {0: TO_ONE_LANE}, [list(TO_ONE_LANE)] * 3):
            with self.subTest(value=value):
                self.assert_invalid(value, None)

    def test_options_that_are_no_triples(self):
        for value in NO_TUPLES + ((), (0,), (0, 1), (0, 1, 5, 0), [0, 1, 5], (TO_ONE_LANE,), nested(99)):
            with self.subTest(value=str(value)[:60]):
                self.assert_invalid((value,), 0)
                self.assert_invalid((TO_ONE_LANE, value), 1)
                self.assert_invalid((TO_ONE_LANE, TO_ONE_LANE, value), 2)

    def test_parts_of_ways_with_each_value_and_those_beside(self):
        for what in range(9):
            for value in range(LEAST[what], GREATEST[what] + 1):
                self.assert_valid(((what, value, 1),))
            for value in (LEAST[what] - 1, GREATEST[what] + 1, -1, 4, GREAT, -GREAT):
                with self.subTest(what=what, value=value):
                    self.assert_invalid(((what, value, 1),), 0)

    def test_rules_with_each_action_and_those_beside(self):
        for what in range(9, 36):
            for value in range(6):
                self.assert_valid(((what, value, 1),))
            for value in (-1, 6, GREAT):
                self.assert_invalid(((what, value, 1),), 0)

    def test_what_beside(self):
        for what in (-1, 36, 37, GREAT, -GREAT):
            for value in (0, 1, 2):
                self.assert_invalid(((what, value, 1),), 0)

    def test_costs(self):
        for cost in (0, 1, 50, 98, 99):
            self.assert_valid(((0, 1, cost),))
        for cost in (-1, 100, GREAT, -GREAT):
            self.assert_invalid(((0, 1, cost),), 0)

    def test_no_integers(self):
        for part in range(3):
            for value in NO_INTEGERS + ("0", [0], nested(97)):
                with self.subTest(part=part, value=str(value)[:60]):
                    option = TO_ONE_LANE[:part] + (value,) + TO_ONE_LANE[part + 1:]
                    self.assert_invalid((option,), 0)
                    self.assert_invalid((TO_ONE_LANE, TO_ONE_LANE, option), 2)

    def test_the_first_of_several_faults(self):
        self.assert_invalid((TO_ONE_LANE, (0, 3, 5), None), 1)
        self.assert_invalid((None, (0, 3, 5), TO_ONE_LANE), 0)
        self.assert_invalid(((0, 3, 5), (0, 1, 100), (36, 0, 0)), 0)


class Choices(unittest.TestCase):
    def assert_choices(self, options, expected):
        kept = copy.deepcopy(options)
        self.assertEqual(list(choices(options)), expected)
        self.assertEqual(list(choices(options=options)), expected)
        self.assertEqual(options, kept)
        self.assertEqual(plain_choices(options), expected)
        for choice in choices(options):
            self.assertIs(type(choice), tuple)

    def test_it_is_a_generator(self):
        self.assertTrue(inspect.isgeneratorfunction(choices))
        made = choices((TO_ONE_LANE, (1, 1, 2)))
        self.assertIsInstance(made, types.GeneratorType)
        self.assertEqual(next(made), ())
        self.assertEqual(next(made), (1,))
        self.assertEqual(list(made), [(0,), (0, 1)])
        self.assertEqual(list(made), [])

    def test_one_option(self):
        self.assert_choices(((0, 1, 5),), [(), (0,)])
        self.assert_choices(((0, 1, 0),), [(), (0,)])

    def test_all_of_two_and_three(self):
        self.assert_choices(((0, 1, 5), (1, 1, 2)), [(), (1,), (0,), (0, 1)])
        self.assert_choices(
            ((0, 1, 1), (1, 1, 2), (2, 1, 4)), [(), (0,), (1,), (0, 1), (2,), (0, 2), (1, 2), (0, 1, 2)])
        self.assert_choices(
            ((2, 1, 4), (1, 1, 2), (0, 1, 1)), [(), (2,), (1,), (1, 2), (0,), (0, 2), (0, 1), (0, 1, 2)])

    def test_equal_costs(self):
        self.assert_choices(
            ((0, 1, 3), (1, 1, 3), (2, 1, 3)), [(), (0,), (1,), (2,), (0, 1), (0, 2), (1, 2), (0, 1, 2)])
        # A sum is the same as one cost: then they stand as tuples.
        self.assert_choices(
            ((0, 1, 3), (1, 1, 1), (2, 1, 2)), [(), (1,), (2,), (0,), (1, 2), (0, 1), (0, 2), (0, 1, 2)])

    def test_costs_of_0(self):
        self.assert_choices(((0, 1, 0), (1, 1, 0)), [(), (0,), (0, 1), (1,)])
        self.assert_choices(
            ((0, 1, 0), (1, 1, 0), (2, 1, 0)), [(), (0,), (0, 1), (0, 1, 2), (0, 2), (1,), (1, 2), (2,)])
        self.assert_choices(((0, 1, 1), (1, 1, 0)), [(), (1,), (0,), (0, 1)])

    def test_two_options_with_the_same_what(self):
        self.assert_choices(((0, 1, 5), (0, 2, 3)), [(), (1,), (0,)])
        self.assert_choices(((0, 1, 5), (0, 1, 5)), [(), (0,), (1,)])
        self.assert_choices(((9, 1, 5), (10, 2, 1), (9, 3, 2)), [(), (1,), (2,), (1, 2), (0,), (0, 1)])
        self.assert_choices(((9, 1, 1), (9, 2, 1), (9, 3, 1)), [(), (0,), (1,), (2,)])

    def test_by_the_plain_telling(self):
        for costs in itertools.product((0, 1, 2, 3), repeat=3):
            for whats in ((0, 1, 2), (3, 3, 4), (5, 6, 5), (7, 7, 7), (20, 21, 21)):
                options = tuple((what, 1, cost) for what, cost in zip(whats, costs))
                self.assert_choices(options, plain_choices(options))


class WithChoice(unittest.TestCase):
    def assert_with(self, way, rules, options, choice, expected):
        kept = copy.deepcopy((way, rules, options, choice))
        found = with_choice(way, rules, options, choice)
        self.assertEqual(found, expected)
        self.assertEqual([type(found), type(found[0]), type(found[1])], [tuple] * 3)
        self.assertEqual(with_choice(choice=choice, options=options, rules=rules, way=way), expected)
        self.assertEqual((way, rules, options, choice), kept)

    def test_each_part_alone(self):
        for what in range(9):
            for value in range(LEAST[what], GREATEST[what] + 1):
                expected = (with_parts(APART, {what: value}), OVER)
                self.assert_with(APART, OVER, ((what, value, 3),), (0,), expected)

    def test_each_rule_alone(self):
        for what in range(9, 36):
            for value in range(6):
                expected = (APART, with_parts(OVER, {what - 9: value}))
                self.assert_with(APART, OVER, ((what, value, 3),), (0,), expected)

    def test_parts_and_rules_at_once(self):
        options = ((0, 1, 5), (14, 4, 1), (8, 1, 1))
        self.assert_with(APART, ROW, options, (), (APART, ROW))
        self.assert_with(APART, ROW, options, (0,), (AHEAD, ROW))
        self.assert_with(APART, ROW, options, (1,), (APART, with_parts(ROW, {5: 4})))
        self.assert_with(APART, ROW, options, (0, 1), (AHEAD, with_parts(ROW, {5: 4})))
        self.assert_with(APART, ROW, options, (0, 1, 2), (with_parts(AHEAD, {8: 1}), with_parts(ROW, {5: 4})))
        self.assert_with(APART, ROW, options, (1, 2), (with_parts(APART, {8: 1}), with_parts(ROW, {5: 4})))

    def test_the_first_and_the_last_ones(self):
        options = ((9, 5, 5), (35, 4, 1), (0, 2, 1))
        expected = (APART, (5,) + OVER[1:26] + (4,))
        self.assert_with(AHEAD, OVER, options, (0, 1, 2), expected)


SLIPPING = with_parts(APART, {SLIPS: 1})

# Way, rules, wishes, options, the choice that mends.
MENDS = (
    (APART, OVER, ("one",), ((0, 1, 5), (1, 1, 2)), (0,)),
    (APART, ROW, ("one",), ((0, 1, 5), (1, 1, 2)), ()),
    (APART, ROW, ("one",), ((0, 1, 0), (1, 1, 0)), ()),
    (APART, OVER, ("one",), ((1, 1, 2),), None),
    (APART, OVER, ("one",), ((0, 1, 5), (0, 1, 4)), (1,)),
    (APART, OVER, ("one",), ((0, 1, 4), (0, 1, 4)), (0,)),
    (APART, OVER, ("one",), ((1, 1, 4), (0, 1, 0), (2, 2, 0)), (1,)),
    # Slips break what one lane mends: both are needed.
    (SLIPPING, OVER, ("ends", "one"), ((0, 1, 5), (4, 0, 7)), (0, 1)),
    (SLIPPING, OVER, ("ends",), ((0, 1, 5), (4, 0, 7)), (1,)),
    (SLIPPING, OVER, ("ends", "on", "one"), ((4, 0, 7), (0, 1, 5), (1, 1, 1)), (0, 1)),
    (SLIPPING, OVER, ("ends", "on", "there"), ((4, 0, 7), (0, 1, 5), (1, 1, 1)), (0, 1, 2)),
    (SLIPPING, OVER, ("ends", "on", "one", "there"), ((4, 0, 7), (0, 1, 5), (1, 1, 1)), None),
    (with_parts(AHEAD, {WIPE: 2}), OVER, ("ends",), ((6, 0, 3), (6, 1, 1)), (1,)),
    (AHEAD, with_parts(OVER, {9: 0}), ("ends",), ((18, 3, 1), (18, 1, 9)), (1,)),
)


class CheapestMend(SearchCase):
    def test_choices_that_mend(self):
        for way, rules, wishes, options, expected in MENDS:
            with self.subTest(way=way, wishes=wishes, options=options):
                self.assertEqual(plain_mend(way, rules, wishes, options), expected)
                self.assertEqual(cheapest_mend(way, rules, wishes, options), expected)

    def test_the_example(self):
        found = cheapest_mend((2, 0, 1, 0, 0, 0, 0, 0, 0), OVER, ("one",), ((0, 1, 5), (1, 1, 2)))
        self.assertEqual(found, (0,))

    def test_own_rules(self):
        for number in range(6):
            rules = own_rules(number)
            for wishes in (("one",), ("on",), ("on", "one"), ("ends", "there")):
                options = ((0, 1, number), (18, 1, 2), (21, 2, 3))
                with self.subTest(number=number, wishes=wishes):
                    expected = plain_mend(APART, rules, wishes, options)
                    self.assertEqual(cheapest_mend(APART, rules, wishes, options), expected)


class Limit(SearchCase):
    def test_each_choice_and_each_wish(self):
        for way, rules, wishes, options, _ in MENDS:
            counts = plain_mend_counts(way, rules, wishes, options)
            with self.subTest(way=way, wishes=wishes, options=options):
                self.assert_limit(max(counts.values()), cheapest_mend, way, rules, wishes, options)

    def test_a_wish_behind_a_broken_one_counts(self):
        # Without a choice "one" is broken; the standings with the memory of "there" are more, and count all the same.
        few, more = [len(plain_standings_for(APART, OVER, word)) for word in ("one", "there")]
        self.assertLess(few, more)
        options = ((0, 1, 5),)
        self.assertIsNone(cheapest_mend(APART, OVER, ("one", "there"), options, limit=more))
        self.assert_exceeded(few, cheapest_mend, APART, OVER, ("one", "there"), options, limit=few)
        self.assertEqual(cheapest_mend(APART, OVER, ("one",), options, limit=few), (0,))

    def test_choices_behind_the_first_one_that_mends_count(self):
        for way, rules, wishes, options, expected in BEHIND:
            with self.subTest(way=way, wishes=wishes, options=options):
                self.assertEqual(plain_mend(way, rules, wishes, options), expected)
                counts = plain_mend_counts(way, rules, wishes, options)
                ahead = plain_choices(options)[:plain_choices(options).index(expected) + 1]
                few, most = max(counts[choice] for choice in ahead), max(counts.values())
                self.assertLess(few, most)
                self.assertEqual(cheapest_mend(way, rules, wishes, options, limit=most), expected)
                self.assert_limit(most, cheapest_mend, way, rules, wishes, options)
                # As many are enough to tell the answer, but they are not all.
                self.assert_exceeded(few, cheapest_mend, way, rules, wishes, options, limit=few)

    def test_the_last_choice_counts_where_none_mends(self):
        self.assertIsNone(plain_mend(*MENDLESS))
        *others, last = plain_mend_counts(*MENDLESS).values()
        self.assertLess(max(others), last)
        self.assertIsNone(cheapest_mend(*MENDLESS, limit=last))
        self.assert_limit(last, cheapest_mend, *MENDLESS)

    def test_left_out_it_is_2000(self):
        # 1,984 and 2,006 standings.
        within, beyond = (2, 0, 3, 0, 0, 0, 2, 2, 0), (1, 1, 2, 1, 1, 1, 3, 0, 1)
        self.assert_exceeded(1983, cheapest_mend, within, OVER, ("one",), ((1, 1, 1),), limit=1983)
        cheapest_mend(within, OVER, ("one",), ((1, 1, 1),))
        self.assert_exceeded(2000, cheapest_mend, beyond, ROW, ("one",), ((1, 1, 1),))
        self.assert_exceeded(2000, cheapest_mend, beyond, ROW, ("one",), ((1, 1, 1),), limit=2000)

    def test_keyword_only(self):
        self.assert_keyword_only_limit(cheapest_mend, APART, OVER, ("one",), ((0, 1, 5),))

    def test_by_name(self):
        for way, rules, wishes, options, _ in MENDS[:3]:
            self.assert_by_name(cheapest_mend, way=way, rules=rules, wishes=wishes, options=options)


if __name__ == "__main__":
    unittest.main()
