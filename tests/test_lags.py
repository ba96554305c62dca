import copy
import unittest

from checks import SearchCase
from given import AHEAD, APART, FEW_WAYS, LAG, MARKS, NO_WISHES, PEEKS, SLIPS, WIPE, own_rules, with_parts
from movedrows.errors import LimitExceeded, UnknownWord
from movedrows.lags import least_lag, least_marks, least_wipe
from movedrows.rules import named_rules
from movedrows.wishes import keeps
from plain import WISHES, plain_keeps, plain_standings_for

OVER, KEY, ROW = named_rules("over"), named_rules("key"), named_rules("row")

# The part that each function puts, and its values.
PARTS = {least_lag: (LAG, (1, 2, 3)), least_marks: (MARKS, (0, 1, 2)), least_wipe: (WIPE, (0, 1, 2, 3))}

PRESSED = (1, 0, 1, 0, 0, 1, 0, 0, 0)
PEEKED = (1, 0, 1, 0, 0, 0, 0, 0, 1)
ROW_FIRST = (1, 1, 1, 0, 1, 0, 0, 0, 0)
MARKED = (1, 1, 1, 2, 0, 0, 0, 0, 0)
DEEPLY_MARKED = (1, 0, 1, 2, 0, 0, 0, 0, 0)

# For each function: way, rules, wish, the least value; each value, None among them, comes.
FOUND = (
    (least_lag, ROW_FIRST, OVER, "one", 1),
    (least_lag, PRESSED, OVER, "one", 2),
    (least_lag, PEEKED, ROW, "on", 3),
    (least_lag, AHEAD, KEY, "one", None),
    (least_marks, ROW_FIRST, OVER, "one", 0),
    (least_marks, PEEKED, OVER, "on", 1),
    (least_marks, AHEAD, OVER, "on", 2),
    (least_marks, AHEAD, OVER, "one", None),
    (least_wipe, AHEAD, ROW, "there", 0),
    (least_wipe, MARKED, own_rules(10), "one", 1),
    (least_wipe, AHEAD, OVER, "ends", 2),
    (least_wipe, DEEPLY_MARKED, own_rules(0), "one", 3),
    (least_wipe, AHEAD, ROW, "one", None),
)


def counts_for(function, way, rules, word):
    """Return the numbers of standings with the memory of the wish, for each value of the part in turn."""
    part, values = PARTS[function]
    return [len(plain_standings_for(with_parts(way, {part: value}), rules, word)) for value in values]


class Least(SearchCase):
    def test_each_value_and_none(self):
        for function, way, rules, word, least in FOUND:
            with self.subTest(function=function.__name__, way=way, word=word):
                self.assertEqual(function(way, rules, word), least)
                self.assertNotIsInstance(function(way, rules, word), bool)

    def test_by_keeps_with_the_part_put_by_hand(self):
        for function, way, rules, word, least in FOUND:
            part, values = PARTS[function]
            with self.subTest(function=function.__name__, way=way, word=word):
                for value in values:
                    if least is None or value < least:
                        self.assertTrue(plain_keeps(with_parts(way, {part: value}), rules, word))
                    elif value == least:
                        self.assertFalse(plain_keeps(with_parts(way, {part: value}), rules, word))

    def test_the_part_is_put_whatever_it_is(self):
        for function, way, rules, word, least in FOUND:
            part, values = PARTS[function]
            for value in values:
                with self.subTest(function=function.__name__, value=value, way=way, word=word):
                    self.assertEqual(function(with_parts(way, {part: value}), rules, word), least)

    def test_some_ways_and_rules(self):
        for number, way in enumerate((AHEAD, FEW_WAYS[1], FEW_WAYS[3], APART)):
            for rules in (OVER, own_rules(number)):
                for function, (part, values) in PARTS.items():
                    for word in WISHES:
                        self.assert_least(function, way, rules, word, part, values)

    def assert_least(self, function, way, rules, word, part, values):
        """Check by keeps, where there are not too many standings."""
        try:
            kept = []
            for value in values:
                kept.append(keeps(with_parts(way, {part: value}), rules, word))
                if not kept[-1]:
                    break
        except LimitExceeded:
            self.assert_exceeded(2000, function, way, rules, word)
            return
        with self.subTest(function=function.__name__, way=way, rules=rules, word=word):
            self.assertEqual(function(way, rules, word), None if all(kept) else values[len(kept) - 1])


class Unknown(SearchCase):
    def test_with_the_value(self):
        for function in PARTS:
            for value in NO_WISHES:
                kept = copy.deepcopy(value)
                with self.subTest(function=function.__name__, value=str(value)[:60]):
                    with self.assertRaises(UnknownWord) as caught:
                        function(AHEAD, OVER, value)
                    self.assertIs(caught.exception.value, value)
                    self.assertEqual(value, kept)

    def test_ahead_of_the_limit(self):
        for function in PARTS:
            with self.assertRaises(UnknownWord):
                function((2, 0, 3, 2, 1, 1, 3, 1, 1), OVER, "no", limit=1)


class Limit(SearchCase):
    def test_the_values_up_to_the_one_that_is_returned(self):
        for function, way, rules, word, least in FOUND:
            _, values = PARTS[function]
            counts = counts_for(function, way, rules, word)
            counted = counts if least is None else counts[:values.index(least) + 1]
            with self.subTest(function=function.__name__, way=way, word=word):
                self.assert_limit(max(counted), function, way, rules, word)

    def test_a_value_behind_it_does_not_count(self):
        beyond = set()
        for function, way, rules, word, least in FOUND:
            _, values = PARTS[function]
            counts = counts_for(function, way, rules, word)
            counted = counts if least is None else counts[:values.index(least) + 1]
            if max(counts) > max(counted):
                beyond.add(function)
                with self.subTest(function=function.__name__, way=way, word=word):
                    self.assertEqual(function(way, rules, word, limit=max(counted)), least)
        self.assertEqual(beyond, set(PARTS))

    def test_the_least_value_that_has_too_many(self):
        # Lag 1 has few standings and keeps the wish; lag 2 has too many, and would break it.
        way, few = PRESSED, counts_for(least_lag, PRESSED, OVER, "one")
        self.assertLess(few[0], few[1])
        self.assert_exceeded(few[0], least_lag, way, OVER, "one", limit=few[0])
        self.assert_exceeded(few[0] - 1, least_lag, way, OVER, "one", limit=few[0] - 1)

    def test_left_out_it_is_2000(self):
        slipped = with_parts(APART, {SLIPS: 1, PEEKS: 1, MARKS: 1})
        for function in (least_lag, least_marks):
            self.assert_exceeded(2000, function, slipped, ROW, "one")
            self.assert_exceeded(2000, function, slipped, ROW, "one", limit=2000)

    def test_keyword_only(self):
        for function in PARTS:
            self.assert_keyword_only_limit(function, AHEAD, ROW, "one")

    def test_by_name(self):
        for function, way, rules, word, _ in FOUND[::2]:
            self.assert_by_name(function, way=way, rules=rules, word=word)


if __name__ == "__main__":
    unittest.main()
