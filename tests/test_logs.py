import copy
import itertools
import unittest

from checks import SearchCase
from given import AHEAD, APART, FEW_WAYS, NO_INTEGERS, NO_TUPLES, PEEKS, PICTURE, SLIPS, nested, own_rules, with_parts
from movedrows.errors import InvalidLog
from movedrows.logs import explained, require_log, traces
from movedrows.rules import named_rules
from plain import first_of, plain_behind, plain_steps
from plain_searches import plain_showing, plain_traces

OVER, KEY, ROW = named_rules("over"), named_rules("key"), named_rules("row")
GREAT = 10 ** 30


class RequireLog(unittest.TestCase):
    def assert_invalid(self, value, index):
        kept = copy.deepcopy(value)
        with self.assertRaises(InvalidLog) as caught:
            require_log(value)
        self.assertEqual(caught.exception.index, index)
        self.assertEqual(value, kept)

    def assert_valid(self, value):
        self.assertIs(require_log(value), value)
        self.assertIs(require_log(value=value), value)

    def test_one_to_eight(self):
        for many in range(1, 9):
            self.assert_valid(((0, 1) * 4)[:many])
            self.assert_valid(((0, 3, 1, 2) * 2)[:many])

    def test_another_length(self):
        self.assert_invalid((), None)
        self.assert_invalid((0, 1) * 4 + (0,), None)
        self.assert_invalid((0, 1) * 5000, None)
        # The length is told ahead of the showings.
        self.assert_invalid((9,) * 9, None)

    def test_no_tuple(self):
        for value in NO_TUPLES + ([0], [0, 1], "0", {0: 0}, [(0, 1)]):
            with self.subTest(value=value):
                self.assert_invalid(value, None)

    def test_a_first_one_that_is_not_0(self):
        for first in (1, 2, 3):
            self.assert_invalid((first,), 0)
            self.assert_invalid((first, 0, 1), 0)

    def test_neighbours_the_same(self):
        self.assert_invalid((0, 0), 1)
        self.assert_invalid((0, 1, 1), 2)
        self.assert_invalid((0, 1, 2, 3, 0, 1, 2, 2), 7)
        self.assert_invalid((0, 3, 3, 3), 2)

    def test_beside(self):
        for value in (-1, 4, 5, GREAT, -GREAT):
            self.assert_invalid((value,), 0)
            self.assert_invalid((0, value), 1)
            self.assert_invalid((0, 1, 2, value, 2), 3)

    def test_no_integers(self):
        for value in NO_INTEGERS + ("0", [0], nested(98)):
            with self.subTest(value=str(value)[:60]):
                self.assert_invalid((value,), 0)
                self.assert_invalid((0, 2, value), 2)
                self.assert_invalid((0, 2, 0, 2, 0, 2, 0, value), 7)

    def test_true_is_no_showing(self):
        self.assert_invalid((False,), 0)
        self.assert_invalid((0, True), 1)

    def test_the_first_of_several_faults(self):
        self.assert_invalid((0, 4, 4, None), 1)
        self.assert_invalid((1, 1, 5), 0)
        self.assert_invalid((0, 1, 1, -1), 2)
        self.assert_invalid((None, 0, 0), 0)


def logs_of(most):
    """Return all logs of at most so many showings."""
    found = []
    for many in range(1, most + 1):
        for rest in itertools.product(range(4), repeat=many - 1):
            log = (0,) + rest
            if all(one != other for one, other in zip(log, log[1:])):
                found.append(log)
    return found


class Logs(SearchCase):
    def assert_told(self, way, rules, log):
        """Check the traces and the weaving of a log by the plain telling."""
        steps = plain_traces(way, rules, log)
        with self.subTest(way=way, rules=rules, log=log):
            found = traces(way, rules, log)
            self.assert_ascending(found)
            self.assertEqual(set(found), set(steps))
            self.assertIn((1, first_of(way)), found)
            weaving = explained(way, rules, log)
            ends = [count for (many, _), count in steps.items() if many == len(log)]
            if not ends:
                self.assertIsNone(weaving)
                return None
            self.assertIs(type(weaving), tuple)
            self.assertEqual(len(weaving), min(ends))
            self.assertEqual(self.plain_log(way, rules, weaving), log)
            return weaving

    def plain_log(self, way, rules, weaving):
        """Return the log of a weaving; fail if it cannot be walked."""
        standing, log = first_of(way), [0]
        for step in weaving:
            self.assertIn(step, plain_steps(way, standing))
            standing = plain_behind(way, rules, standing, step)
            if plain_showing(way, standing) != log[-1]:
                log.append(plain_showing(way, standing))
        return tuple(log)

    def test_all_short_logs(self):
        for way in (AHEAD, APART):
            told = []
            for rules in (OVER, ROW, own_rules(3), own_rules(5)):
                told += [self.assert_told(way, rules, log) for log in logs_of(3)]
            self.assertTrue(any(told))
            self.assertIn(None, told)

    def test_some_longer_logs(self):
        for number, way in enumerate(FEW_WAYS[:7] + FEW_WAYS[8:9]):
            for log in ((0, 1, 0, 2), (0, 1, 3, 2), (0, 2, 1, 0, 1), (0, 1, 0, 1, 0, 1), (0, 3, 0), (0, 2, 3, 1, 2)):
                self.assert_told(way, (OVER, KEY, ROW)[number % 3], log)

    def test_own_rules_with_pictures(self):
        for number, picture in enumerate((1, 2)):
            for log in ((0, 1, 2), (0, 2, 0), (0, 3, 1)):
                self.assert_told(with_parts(AHEAD, {PICTURE: picture}), own_rules(number), log)

    def test_eight_showings(self):
        for log in ((0, 1, 0, 2, 0, 1, 0, 2), (0, 1, 2, 1, 2, 1, 2, 1), (0, 1, 2, 0, 1, 2, 0, 1)):
            for rules in (OVER, ROW):
                self.assert_told(AHEAD, rules, log)

    def test_a_log_of_one_showing(self):
        for way in FEW_WAYS:
            self.assertEqual(explained(way, OVER, (0,)), ())
            found = traces(way, OVER, (0,))
            self.assertEqual({many for many, _ in found}, {1})
            self.assertIn((1, first_of(way)), found)

    def test_by_hand(self):
        weaving = explained(APART, OVER, (0, 1))
        self.assertEqual(weaving, (("change", 1), ("take", 0)))
        # Nothing is ever shown of a row that takes no entry.
        self.assertIsNone(explained(AHEAD, (0,) * 27, (0, 1)))
        # One lane shows the strike ahead of the other row.
        self.assertIsNone(explained(AHEAD, OVER, (0, 1, 2)))
        self.assertEqual(len(explained((1, 1) + AHEAD[2:], ROW, (0, 1, 2))), 4)
        self.assertEqual(
            explained((1, 1) + AHEAD[2:], ROW, (0, 1, 2)), (("change", 1), ("take", 0), ("change", 2), ("take", 0)))

    def test_a_step_that_shows_something_else_leads_nowhere(self):
        # With slips the row may go unseen: but not without another showing ahead of two rows.
        way = with_parts(APART, {SLIPS: 1})
        self.assertIsNone(explained(way, ROW, (0, 3)))
        self.assertEqual({many for many, _ in traces(way, ROW, (0, 3))}, {1})
        for many, standing in traces(way, ROW, (0, 1, 0)):
            self.assertEqual(plain_showing(way, standing), (0, 1, 0)[many - 1])

    def test_the_example(self):
        self.assertEqual(len(explained((2, 0, 1, 0, 0, 0, 0, 0, 0), OVER, (0, 1, 3))), 4)
        self.assertIsNone(explained((1, 0, 1, 0, 0, 0, 0, 0, 0), OVER, (0, 1, 3)))


class Limit(SearchCase):
    def test_just_as_many_traces(self):
        for way, rules, log in (
                (AHEAD, OVER, (0, 1, 3)), (AHEAD, ROW, (0, 1, 2)), (APART, OVER, (0, 1, 3)), (APART, KEY, (0, 3, 0)),
                (with_parts(AHEAD, {PEEKS: 1}), ROW, (0, 1, 0, 2)), (APART, ROW, (0,))):
            many = len(plain_traces(way, rules, log))
            with self.subTest(way=way, rules=rules, log=log):
                self.assert_limit(many, traces, way, rules, log)
                self.assert_limit(many, explained, way, rules, log)

    def test_also_where_the_answer_could_be_told(self):
        great = (2, 1, 3, 2, 1, 1, 3, 2, 1)
        for limit in (1, 60, 2000):
            for log in ((0,), (0, 1), (0, 1, 2, 3)):
                self.assert_exceeded(limit, traces, great, KEY, log, limit=limit)
                self.assert_exceeded(limit, explained, great, KEY, log, limit=limit)

    def test_left_out_it_is_2000(self):
        beyond = with_parts(APART, {2: 3, PEEKS: 1})
        for function in (traces, explained):
            self.assert_exceeded(2000, function, beyond, KEY, (0, 1, 0, 2))
            self.assert_exceeded(2000, function, beyond, KEY, (0, 1, 0, 2), limit=2000)

    def test_keyword_only(self):
        self.assert_keyword_only_limit(traces, AHEAD, OVER, (0, 1))
        self.assert_keyword_only_limit(explained, AHEAD, OVER, (0, 1))

    def test_by_name(self):
        self.assert_by_name(traces, way=APART, rules=OVER, log=(0, 1, 3))
        self.assert_by_name(explained, way=APART, rules=OVER, log=(0, 1, 3))
        self.assert_by_name(explained, way=AHEAD, rules=OVER, log=(0, 1, 3))


if __name__ == "__main__":
    unittest.main()
