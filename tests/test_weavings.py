import copy
import random
import unittest

from given import AHEAD, APART, NO_STEPS, own_rules, ways_of_all_kinds, with_all_let, with_parts
from movedrows.errors import CannotStep
from movedrows.rules import named_rules
from movedrows.standings import first_standing
from movedrows.weavings import history_of, log_of, walked
from plain import Row, first_of, plain_behind, plain_steps

LAG, MARKS, PEEKS = 2, 3, 8
OVER, KEY, ROW = named_rules("over"), named_rules("key"), named_rules("row")
EXAMPLE = (("change", 1), ("take", 0), ("change", 2), ("take", 1))


def plain_walk(way, rules, many, seed):
    """Return a weaving of some steps, the standing after it and its log."""
    made = random.Random(seed)
    standing, weaving, log = first_of(way), [], [0]
    for _ in range(many):
        step = made.choice(plain_steps(way, standing))
        weaving.append(step)
        standing = plain_behind(way, rules, standing, step)
        keys = [key for key, _ in Row(way, standing).shown()]
        showing = {(): 0, (1,): 1, (2,): 2, (1, 2): 3}[tuple(keys)]
        if showing != log[-1]:
            log.append(showing)
    return tuple(weaving), standing, tuple(log)


class Walked(unittest.TestCase):
    def test_the_example(self):
        expected = (2, 2, (((), ((1, 0, 2),)), ((), ())), ((1, 1), (1, 2)), 0, (0, 0))
        self.assertEqual(walked(APART, OVER, EXAMPLE), expected)
        self.assertEqual(walked(weaving=EXAMPLE, rules=OVER, way=APART), expected)
        self.assertEqual(log_of(APART, OVER, EXAMPLE), (0, 1, 3))
        self.assertEqual(log_of(weaving=EXAMPLE, rules=OVER, way=APART), (0, 1, 3))

    def test_the_empty_weaving(self):
        for way in ways_of_all_kinds():
            self.assertEqual(walked(way, ROW, ()), first_standing(way))
            self.assertEqual(log_of(way, ROW, ()), (0,))

    def test_by_the_plain_telling(self):
        for number, way in enumerate(ways_of_all_kinds()):
            for rules in (OVER, KEY, ROW, own_rules(number)):
                weaving, standing, log = plain_walk(way, rules, 25, number)
                with self.subTest(way=way, rules=rules, weaving=weaving):
                    self.assertEqual(walked(way, rules, weaving), standing)
                    self.assertEqual(log_of(way, rules, weaving), log)

    def test_the_memory_is_left_alone(self):
        for number, way in enumerate(ways_of_all_kinds()):
            weaving, _, _ = plain_walk(way, KEY, 20, number)
            self.assertEqual(walked(way, KEY, weaving)[5], (0, 0))


class CannotWalk(unittest.TestCase):
    def assert_cannot(self, way, weaving, index):
        kept = copy.deepcopy(weaving)
        for function in (walked, log_of):
            with self.assertRaises(CannotStep) as caught:
                function(way, OVER, weaving)
            self.assertEqual(caught.exception.index, index)
            self.assertIs(type(caught.exception.index), int)
        self.assertEqual(weaving, kept)

    def test_the_first_that_cannot_be_done(self):
        self.assert_cannot(APART, (("take", 0),), 0)
        self.assert_cannot(APART, (("change", 0),), 0)
        self.assert_cannot(APART, (("change", 1), ("change", 1)), 1)
        self.assert_cannot(APART, EXAMPLE + (("take", 1),), 4)
        self.assert_cannot(AHEAD, EXAMPLE, 3)
        self.assert_cannot(APART, EXAMPLE + (("take", 1), ("take", 9), ("take",), None), 4)

    def test_values_that_are_no_steps(self):
        for value in NO_STEPS:
            with self.subTest(value=str(value)[:60]):
                self.assert_cannot(APART, (value,), 0)
                self.assert_cannot(APART, EXAMPLE + (value, ("take", 0)), 4)
                self.assert_cannot(APART, EXAMPLE[:2] + (value, value), 2)

    def test_true_and_false_are_no_integers(self):
        self.assert_cannot(APART, (("change", True),), 0)
        self.assert_cannot(APART, (("change", 1), ("take", False)), 1)

    def test_late_ones(self):
        weaving = (("change", 1), ("take", 0)) * 4999
        self.assert_cannot(APART, weaving + (("take", 0),), 9998)
        self.assert_cannot(APART, weaving + (("change", 1), ["take", 0]), 9999)


class LongAndSame(unittest.TestCase):
    def test_10000_steps(self):
        # Two lanes: the strike of the first key is taken in lane 0, that of the second one in lane 1.
        weaving = (("change", 1), ("take", 0), ("change", 2), ("take", 0), ("take", 1))
        weaving += (("change", 1), ("take", 1), ("take", 0), ("change", 2), ("take", 0), ("take", 1)) * 1665
        weaving += (("change", 2), ("take", 1), ("change", 0), ("take", 1), ("change", 1))
        self.assertEqual(len(weaving), 10000)
        self.assertEqual(walked(APART, OVER, weaving), (1, 1, (((), ((1, 1, 1),)), ((), ())), ((), ()), 0, (0, 0)))
        self.assertEqual(log_of(APART, OVER, weaving), (0, 1) + (0, 2, 0, 1) * 1665 + (0, 2, 0))

    def test_10000_steps_of_a_few_kinds(self):
        way = with_all_let(1, picture=0)
        weaving = (("change", 1), ("take", 0), ("fall", 0), ("take", 0), ("mark", 0)) * 2000
        self.assertEqual(walked(way, OVER, weaving), (1, 1, (((), ()),), ((1, 1), ()), 0, (0, 0)))
        self.assertEqual(log_of(way, OVER, weaving), (0, 1))

    def test_showings_that_are_the_same_as_the_one_ahead(self):
        weaving = (("change", 1), ("take", 0), ("change", 1), ("take", 0), ("change", 0), ("take", 0), ("change", 1))
        self.assertEqual(log_of(AHEAD, OVER, weaving), (0, 1, 0))
        # A showing that comes again after another one stands again.
        self.assertEqual(log_of(AHEAD, OVER, weaving + (("take", 0),)), (0, 1, 0, 1))

    def test_from_one_key_to_the_other_and_to_both(self):
        weaving = (("change", 1), ("take", 0), ("change", 2), ("take", 0), ("take", 0))
        self.assertEqual(log_of(AHEAD, OVER, weaving), (0, 1, 0, 2))
        self.assertEqual(log_of(AHEAD, ROW, weaving), (0, 1, 0, 2))
        self.assertEqual(log_of((1, 1) + AHEAD[2:], OVER, weaving), (0, 1, 3, 2))
        self.assertEqual(log_of((1, 1) + AHEAD[2:], ROW, weaving), (0, 1, 2))


class HistoryOf(unittest.TestCase):
    def test_the_places_of_the_changes_alone(self):
        self.assertEqual(history_of(EXAMPLE), (1, 2))
        self.assertEqual(history_of(weaving=EXAMPLE), (1, 2))
        self.assertEqual(history_of(()), ())
        self.assertEqual(history_of((("change", 2),)), (2,))
        weaving = (
            ("change", 1), ("picture",), ("look", 2), ("change", 0), ("change", 2), ("look", 1), ("end",), ("take", 0),
            ("mark", 0), ("fall", 0), ("slip", 0), ("press", 0, 1), ("wipe", 0, 2), ("peek", 1), ("change", 2))
        self.assertEqual(history_of(weaving), (1, 0, 2, 2))

    def test_of_walks(self):
        way = with_parts(APART, {LAG: 2, MARKS: 1, PEEKS: 1})
        for seed in range(20):
            weaving, _, _ = plain_walk(way, KEY, 40, seed)
            self.assertEqual(history_of(weaving), tuple(step[1] for step in weaving if step[0] == "change"))

    def test_a_long_one(self):
        self.assertEqual(history_of((("change", 1), ("take", 0)) * 5000), (1,) * 5000)


if __name__ == "__main__":
    unittest.main()
