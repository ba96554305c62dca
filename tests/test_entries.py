import copy
import unittest

from given import NO_INTEGERS, NO_TUPLES
from movedrows.entries import entries_of, is_elder, require_history, told_entries
from movedrows.errors import InvalidHistory

GREAT = 10 ** 30


class RequireHistory(unittest.TestCase):
    def assert_invalid(self, value, index):
        kept = copy.deepcopy(value)
        with self.assertRaises(InvalidHistory) as caught:
            require_history(value)
        self.assertEqual(caught.exception.index, index)
        self.assertIs(index is None, caught.exception.index is None)
        self.assertEqual(value, kept)

    def test_returns_the_value_itself(self):
        histories = [(), (1,), (2,), (1, 0), (2, 0, 1, 1, 2, 2, 1, 0, 2), (1, 2) * 500, (2, 0) * 500, (1,) * 1000]
        for history in histories:
            with self.subTest(length=len(history)):
                self.assertIs(require_history(history), history)

    def test_each_change_that_there_is(self):
        for history in [(1, 0), (1, 1), (1, 2), (2, 0), (2, 1), (2, 2), (1, 0, 1), (1, 0, 2), (2, 0, 1), (2, 0, 2)]:
            with self.subTest(history):
                self.assertIs(require_history(value=history), history)

    def test_at_most_a_thousand_changes(self):
        self.assert_invalid((1,) * 1001, None)
        self.assert_invalid((1, 2) * 5000, None)
        # The length is told ahead of the parts.
        self.assert_invalid((3,) * 1001, None)

    def test_no_tuple(self):
        for value in NO_TUPLES:
            with self.subTest(value=value):
                self.assert_invalid(value, None)

    def test_no_place(self):
        for part in (3, -1, 4, GREAT, -GREAT) + NO_INTEGERS:
            with self.subTest(part=part):
                self.assert_invalid((part,), 0)
                self.assert_invalid((1, part), 1)
                self.assert_invalid((2, 0, 1, 2, part, 1), 4)

    def test_nowhere_to_nowhere_is_no_change(self):
        self.assert_invalid((0,), 0)
        self.assert_invalid((0, 1), 0)
        self.assert_invalid((1, 0, 0), 2)
        self.assert_invalid((1, 2, 0, 2, 0, 0, 1), 5)
        self.assert_invalid((1,) * 998 + (0, 0), 999)

    def test_the_first_of_several_faults(self):
        self.assert_invalid((1, 3, 0, 0, None), 1)
        self.assert_invalid((1, 0, 0, 3, True), 2)
        self.assert_invalid((1, 2, True, -1, 3), 2)


class ToldEntries(unittest.TestCase):
    def test_each_change(self):
        for s in (1, 2, 7, 1000, GREAT):
            told = {
                (0, 1): ((1, 1, s),),
                (0, 2): ((2, 1, s),),
                (1, 0): ((1, 0, s),),
                (2, 0): ((2, 0, s),),
                (1, 1): ((1, 1, s),),
                (2, 2): ((2, 1, s),),
                (1, 2): ((1, 0, s), (2, 1, s)),
                (2, 1): ((2, 0, s), (1, 1, s)),
            }
            for (place, later), entries in told.items():
                with self.subTest(place=place, later=later, stamp=s):
                    self.assertEqual(told_entries(place, later, s), entries)
                    self.assertEqual(told_entries(stamp=s, later=later, place=place), entries)


class EntriesOf(unittest.TestCase):
    def test_the_empty_history(self):
        self.assertEqual(entries_of(()), ())

    def test_the_example_of_the_document(self):
        entries = ((1, 1, 1), (1, 0, 2), (2, 1, 2), (2, 1, 3), (2, 0, 4))
        self.assertEqual(entries_of((1, 2, 2, 0)), entries)
        self.assertEqual(entries_of(history=(1, 2, 2, 0)), entries)

    def test_places_written_anew(self):
        self.assertEqual(entries_of((1, 1, 1)), ((1, 1, 1), (1, 1, 2), (1, 1, 3)))
        self.assertEqual(entries_of((2, 2, 1)), ((2, 1, 1), (2, 1, 2), (2, 0, 3), (1, 1, 3)))

    def test_away_and_back(self):
        entries = ((2, 1, 1), (2, 0, 2), (2, 1, 3), (2, 0, 4), (1, 1, 4), (1, 0, 5))
        self.assertEqual(entries_of((2, 0, 2, 1, 0)), entries)

    def test_a_long_history(self):
        entries = entries_of((1, 2) * 500)
        self.assertEqual(len(entries), 1999)
        self.assertEqual(entries[:5], ((1, 1, 1), (1, 0, 2), (2, 1, 2), (2, 0, 3), (1, 1, 3)))
        self.assertEqual(entries[-2:], ((1, 0, 1000), (2, 1, 1000)))

    def test_the_history_stays_as_it_was(self):
        history = (1, 2, 2, 0)
        entries_of(history)
        self.assertEqual(history, (1, 2, 2, 0))


class IsElder(unittest.TestCase):
    def test_by_the_stamp_ahead_of_the_kind(self):
        for key in (1, 2):
            for other_key in (1, 2):
                for kind in (0, 1, 2):
                    for other_kind in (0, 1, 2):
                        one, other = (key, kind, 3), (other_key, other_kind, 4)
                        with self.subTest(one=one, other=other):
                            self.assertIs(is_elder(one, other), True)
                            self.assertIs(is_elder(other, one), False)

    def test_by_the_kind_with_the_same_stamp(self):
        for key in (1, 2):
            for other_key in (1, 2):
                for kind, other_kind in ((0, 1), (0, 2), (1, 2)):
                    one, other = (key, kind, 5), (other_key, other_kind, 5)
                    with self.subTest(one=one, other=other):
                        self.assertIs(is_elder(one, other), True)
                        self.assertIs(is_elder(other, one), False)

    def test_the_same_pair_whatever_the_key(self):
        for kind in (0, 1, 2):
            for key in (1, 2):
                for other_key in (1, 2):
                    self.assertIs(is_elder((key, kind, 6), (other_key, kind, 6)), False)

    def test_great_stamps(self):
        self.assertIs(is_elder((2, 1, GREAT), (1, 0, GREAT + 1)), True)
        self.assertIs(is_elder((1, 0, GREAT + 1), (2, 1, GREAT)), False)

    def test_by_name(self):
        self.assertIs(is_elder(other=(1, 1, 2), one=(2, 1, 1)), True)
        self.assertIs(is_elder(other=(2, 1, 1), one=(1, 1, 2)), False)


if __name__ == "__main__":
    unittest.main()
