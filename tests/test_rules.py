import copy
import unittest

from given import NO_INTEGERS, NO_TUPLES, nested
from movedrows.errors import InvalidRules, UnknownWord
from movedrows.rules import asked_rule, laid, named_rules, relation, require_rules, rules_with

GREAT = 10 ** 30


class RequireRules(unittest.TestCase):
    def assert_invalid(self, value, index):
        kept = copy.deepcopy(value)
        with self.assertRaises(InvalidRules) as caught:
            require_rules(value)
        self.assertEqual(caught.exception.index, index)
        self.assertEqual(value, kept)

    def test_returns_the_value_itself(self):
        for rules in ((0,) * 27, (5,) * 27, (0, 1, 2, 3, 4, 5, 0, 1, 2) * 3, named_rules("row")):
            self.assertIs(require_rules(rules), rules)
            self.assertIs(require_rules(value=rules), rules)

    def test_another_length(self):
        for length in (0, 1, 9, 26, 28, 54, 10 ** 6):
            with self.subTest(length):
                self.assert_invalid((1,) * length, None)
        # The length is told ahead of the parts.
        self.assert_invalid((6,) * 26, None)
        self.assert_invalid((None,) * 28, None)

    def test_no_tuple(self):
        for value in NO_TUPLES + ("1" * 27, {index: 1 for index in range(27)}):
            with self.subTest(value=value):
                self.assert_invalid(value, None)

    def test_no_action(self):
        for part in (6, -1, GREAT, -GREAT) + NO_INTEGERS:
            for index in (0, 1, 13, 26):
                with self.subTest(part=part, index=index):
                    self.assert_invalid((1,) * index + (part,) + (1,) * (26 - index), index)

    def test_the_first_of_several_faults(self):
        self.assert_invalid((1,) * 4 + (6,) + (1,) * 10 + (None,) * 12, 4)
        self.assert_invalid((5,) * 20 + (True, 6, -1, "0", 6, 6, 6), 20)


class NamedRules(unittest.TestCase):
    def assert_table(self, word, action_of):
        rules = named_rules(word)
        self.assertIs(type(rules), tuple)
        self.assertEqual(len(rules), 27)
        for kind in (0, 1, 2):
            for own in (0, 1, 2):
                for other in (0, 1, 2):
                    index = kind * 9 + own * 3 + other
                    with self.subTest(word=word, kind=kind, own=own, other=other):
                        self.assertEqual(rules[index], action_of(kind, own, other))

    def test_over(self):
        self.assert_table("over", lambda kind, own, other: {0: 3, 1: 1, 2: 3}[kind])

    def test_key(self):
        self.assert_table("key", lambda kind, own, other: 0 if own == 2 else 1)

    def test_row(self):
        self.assert_table("row", lambda kind, own, other: 0 if 2 in (own, other) else {0: 2, 1: 2, 2: 3}[kind])

    def test_they_are_rules(self):
        for word in ("over", "key", "row"):
            self.assertEqual(require_rules(named_rules(word)), named_rules(word=word))

    def test_any_other_value(self):
        values = (
            "", "Over", "over ", " row", "keys", "one", "rowkey", ("over",), ["over"], ("row", "key"), {"row": 1},
            (1,) * 27, nested(100), [["key"]],
        )
        for value in values + NO_TUPLES + NO_INTEGERS:
            with self.subTest(value=value):
                kept = copy.deepcopy(value)
                with self.assertRaises(UnknownWord) as caught:
                    named_rules(value)
                self.assertIs(caught.exception.value, value)
                self.assertEqual(value, kept)


class Relation(unittest.TestCase):
    def test_nothing_held(self):
        for kind in (0, 1, 2):
            for key in (1, 2):
                self.assertEqual(relation((), (key, kind, 1)), 0)
                self.assertEqual(relation((), (key, kind, GREAT)), 0)

    def test_elder_by_stamp(self):
        for kind in (0, 1, 2):
            for held_kind in (0, 1, 2):
                with self.subTest(kind=kind, held_kind=held_kind):
                    self.assertEqual(relation((held_kind, 3), (1, kind, 4)), 1)
                    self.assertEqual(relation((held_kind, GREAT), (2, kind, GREAT + 1)), 1)

    def test_younger_by_stamp(self):
        for kind in (0, 1, 2):
            for held_kind in (0, 1, 2):
                with self.subTest(kind=kind, held_kind=held_kind):
                    self.assertEqual(relation((held_kind, 4), (1, kind, 3)), 2)
                    self.assertEqual(relation((held_kind, GREAT + 1), (2, kind, GREAT)), 2)

    def test_by_kind_with_the_same_stamp(self):
        for less, more in ((0, 1), (0, 2), (1, 2)):
            for key in (1, 2):
                self.assertEqual(relation((less, 7), (key, more, 7)), 1)
                self.assertEqual(relation((more, 7), (key, less, 7)), 2)

    def test_the_same_pair(self):
        for kind in (0, 1, 2):
            for key in (1, 2):
                self.assertEqual(relation((kind, 7), (key, kind, 7)), 2)

    def test_by_name(self):
        self.assertEqual(relation(entry=(1, 0, 2), slot=(1, 1)), 1)
        self.assertEqual(relation(entry=(1, 0, 1), slot=(1, 2)), 2)


# What is held for an entry with the stamp 5 to find 0, 1 and 2.
FOUND = {0: ((),), 1: ((0, 4), (1, 4), (2, 1)), 2: ((2, 5), (0, 6), (1, 6))}


def each_meeting():
    """Yield (own, other, own slot, other slot) for what an entry with the stamp 5 may find."""
    for own, own_slots in FOUND.items():
        for other, other_slots in FOUND.items():
            for own_slot in own_slots:
                for other_slot in other_slots:
                    yield own, other, own_slot, other_slot


class AskedRule(unittest.TestCase):
    def test_each_kind_key_and_pair_of_what_is_found(self):
        for kind in (0, 1, 2):
            for own, other, own_slot, other_slot in each_meeting():
                with self.subTest(kind=kind, own_slot=own_slot, other_slot=other_slot):
                    index = kind * 9 + own * 3 + other
                    self.assertEqual(asked_rule((own_slot, other_slot), (1, kind, 5)), index)
                    self.assertEqual(asked_rule((other_slot, own_slot), (2, kind, 5)), index)

    def test_some_by_hand(self):
        self.assertEqual(asked_rule(((), ()), (1, 0, 1)), 0)
        self.assertEqual(asked_rule(((1, 1), ()), (1, 0, 2)), 3)
        self.assertEqual(asked_rule(((1, 1), ()), (2, 0, 2)), 1)
        self.assertEqual(asked_rule(((1, 1), ()), (1, 1, 1)), 15)
        self.assertEqual(asked_rule(((1, 3), (1, 2)), (2, 2, 3)), 22)
        self.assertEqual(asked_rule(((2, 3), (2, 3)), (2, 2, 3)), 26)

    def test_by_name(self):
        self.assertEqual(asked_rule(entry=(2, 1, 2), held=((1, 1), ())), 10)


class Laid(unittest.TestCase):
    def test_each_action(self):
        for kind in (0, 1, 2):
            for own, other, own_slot, other_slot in each_meeting():
                index = kind * 9 + own * 3 + other
                behind = {
                    0: (own_slot, other_slot),
                    1: ((kind, 5), other_slot),
                    2: ((kind, 5), ()),
                    3: ((), other_slot),
                    4: ((), ()),
                    5: (own_slot, ()),
                }
                for action, (own_behind, other_behind) in behind.items():
                    # Only the rule that is asked has the action.
                    rules = ((action + 1) % 6,) * index + (action,) + ((action + 2) % 6,) * (26 - index)
                    with self.subTest(kind=kind, action=action, own_slot=own_slot, other_slot=other_slot):
                        first = laid(rules, (own_slot, other_slot), (1, kind, 5))
                        second = laid(rules, (other_slot, own_slot), (2, kind, 5))
                        self.assertEqual(first, (own_behind, other_behind))
                        self.assertEqual(second, (other_behind, own_behind))

    def test_the_example_of_the_document(self):
        held, entry = ((1, 1), ()), (2, 1, 2)
        self.assertEqual(asked_rule(held, entry), 10)
        self.assertEqual(laid(named_rules("over"), held, entry), ((1, 1), (1, 2)))
        self.assertEqual(laid(named_rules("row"), held, entry), ((), (1, 2)))

    def test_great_stamps(self):
        held = ((1, GREAT), (0, GREAT - 1))
        self.assertEqual(laid(named_rules("key"), held, (2, 1, GREAT - 1)), ((1, GREAT), (1, GREAT - 1)))
        self.assertEqual(laid(named_rules("key"), held, (1, 1, GREAT)), held)

    def test_by_name_and_nothing_changes(self):
        rules, held, entry = named_rules("row"), ((1, 1), ()), (2, 1, 2)
        self.assertEqual(laid(entry=entry, held=held, rules=rules), ((), (1, 2)))
        self.assertEqual((rules, held, entry), (named_rules("row"), ((1, 1), ()), (2, 1, 2)))


class RulesWith(unittest.TestCase):
    def test_one_action_is_put(self):
        rules = (0, 1, 2, 3, 4, 5, 0, 1, 2) * 3
        for index in range(27):
            for action in range(6):
                with self.subTest(index=index, action=action):
                    put = rules_with(rules, index, action)
                    expected = list(rules)
                    expected[index] = action
                    self.assertEqual(put, tuple(expected))
                    self.assertIs(type(put), tuple)
        self.assertEqual(rules, (0, 1, 2, 3, 4, 5, 0, 1, 2) * 3)

    def test_a_named_table_stays_as_it_was(self):
        rules_with(named_rules("over"), 0, 5)
        self.assertEqual(named_rules("over")[0], 3)

    def test_by_name(self):
        put = rules_with(action=4, index=26, rules=(0,) * 27)
        self.assertEqual(put, (0,) * 26 + (4,))


if __name__ == "__main__":
    unittest.main()
