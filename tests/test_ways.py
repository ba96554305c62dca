import copy
import unittest

from given import NO_INTEGERS, NO_TUPLES
from movedrows.entries import entries_of
from movedrows.errors import InvalidWay
from movedrows.ways import is_way_within, lane_of, lanes_of, require_way

LEAST = (1, 0, 1, 0, 0, 0, 0, 0, 0)
GREATEST = (2, 1, 3, 2, 1, 1, 3, 2, 1)
LAG, MARKS, SLIPS, PRESS, WIPE, PICTURE, PEEKS = 2, 3, 4, 5, 6, 7, 8


def with_part(way, index, part):
    """Return the way with another part at the index."""
    return way[:index] + (part,) + way[index + 1:]


class RequireWay(unittest.TestCase):
    def assert_invalid(self, value, index):
        kept = copy.deepcopy(value)
        with self.assertRaises(InvalidWay) as caught:
            require_way(value)
        self.assertEqual(caught.exception.index, index)
        self.assertEqual(value, kept)

    def test_each_part_with_each_of_its_values(self):
        for way in (LEAST, GREATEST):
            for index in range(9):
                for part in range(LEAST[index], GREATEST[index] + 1):
                    value = with_part(way, index, part)
                    with self.subTest(value=value):
                        self.assertIs(require_way(value), value)
                        self.assertIs(require_way(value=value), value)

    def test_each_part_one_beyond(self):
        for way in (LEAST, GREATEST):
            for index in range(9):
                for part in (LEAST[index] - 1, GREATEST[index] + 1, 10 ** 30, -10 ** 30):
                    with self.subTest(index=index, part=part):
                        self.assert_invalid(with_part(way, index, part), index)

    def test_no_integer(self):
        for index in range(9):
            for part in NO_INTEGERS:
                with self.subTest(index=index, part=part):
                    self.assert_invalid(with_part(LEAST, index, part), index)

    def test_another_length(self):
        for value in ((), LEAST[:8], LEAST + (0,), LEAST * 2, (1,)):
            with self.subTest(value=value):
                self.assert_invalid(value, None)
        # The length is told ahead of the parts.
        self.assert_invalid((None,) * 8, None)
        self.assert_invalid((9,) * 10, None)

    def test_no_tuple(self):
        for value in NO_TUPLES + (list(LEAST), "101000000", {index: 1 for index in range(9)}):
            with self.subTest(value=value):
                self.assert_invalid(value, None)

    def test_the_first_of_several_faults(self):
        self.assert_invalid((1, 0, 4, 3, None, 0, 0, 0, 2), 2)
        self.assert_invalid((0, 2, 0, -1, 2, 2, 4, 3, 2), 0)
        self.assert_invalid((2, 0, 1, 0, 0, 0, 0, True, 2), 7)


class IsWayWithin(unittest.TestCase):
    middle = (2, 0, 2, 1, 0, 0, 1, 0, 0)

    def test_the_same_way(self):
        for way in (LEAST, GREATEST, self.middle, (1, 1, 2, 2, 0, 1, 2, 1, 0)):
            self.assertIs(is_way_within(way, way), True)

    def test_each_part_greater_and_lesser(self):
        for index in (LAG, MARKS, SLIPS, PRESS, WIPE, PEEKS):
            for way in (LEAST, GREATEST, self.middle):
                for part in range(LEAST[index], GREATEST[index]):
                    less, more = with_part(way, index, part), with_part(way, index, part + 1)
                    with self.subTest(less=less, more=more):
                        self.assertIs(is_way_within(less, more), True)
                        self.assertIs(is_way_within(more, less), False)

    def test_one_part_greater_is_too_much_whatever_the_others(self):
        most = (1, 0, 3, 2, 1, 1, 3, 2, 1)
        for index in (LAG, MARKS, SLIPS, PRESS, WIPE, PEEKS):
            other = with_part(most, index, LEAST[index])
            way = with_part(LEAST, index, LEAST[index] + 1)
            with self.subTest(index=index):
                self.assertIs(is_way_within(way, other), False)

    def test_all_parts_lesser(self):
        self.assertIs(is_way_within((2, 1, 1, 0, 0, 0, 0, 0, 0), GREATEST), True)
        self.assertIs(is_way_within((2, 1, 2, 1, 0, 0, 2, 2, 0), GREATEST), True)

    def test_other_lanes(self):
        self.assertIs(is_way_within(with_part(self.middle, 0, 1), self.middle), False)
        self.assertIs(is_way_within(self.middle, with_part(self.middle, 0, 1)), False)

    def test_another_first(self):
        for lanes in (1, 2):
            way = with_part(self.middle, 0, lanes)
            self.assertIs(is_way_within(with_part(way, 1, 1), way), False)
            self.assertIs(is_way_within(way, with_part(way, 1, 1)), False)

    def test_pictures(self):
        within = {(0, 0), (1, 1), (2, 2), (0, 1), (0, 2)}
        for picture in (0, 1, 2):
            for other in (0, 1, 2):
                with self.subTest(picture=picture, other=other):
                    ways = with_part(self.middle, PICTURE, picture), with_part(self.middle, PICTURE, other)
                    self.assertIs(is_way_within(*ways), (picture, other) in within)

    def test_by_name(self):
        self.assertIs(is_way_within(other=with_part(LEAST, LAG, 2), way=LEAST), True)
        self.assertIs(is_way_within(other=LEAST, way=with_part(LEAST, LAG, 2)), False)


class LaneOf(unittest.TestCase):
    def test_one_lane(self):
        for first in (0, 1):
            way = (1, first, 1, 0, 0, 0, 0, 0, 0)
            self.assertEqual((lane_of(way, 1), lane_of(way, 2)), (0, 0))

    def test_two_lanes(self):
        for first in (0, 1):
            way = (2, first, 3, 2, 1, 1, 3, 2, 1)
            self.assertEqual((lane_of(way, 1), lane_of(way, 2)), (0, 1))

    def test_by_name(self):
        self.assertEqual(lane_of(key=2, way=GREATEST), 1)


class LanesOf(unittest.TestCase):
    history = (1, 2, 2, 1, 0, 2, 1)

    def test_one_lane_with_the_strike_first(self):
        lane = (
            (1, 1, 1), (1, 0, 2), (2, 1, 2), (2, 1, 3), (2, 0, 4), (1, 1, 4), (1, 0, 5), (2, 1, 6),
            (2, 0, 7), (1, 1, 7),
        )
        self.assertEqual(lanes_of((1, 0, 1, 0, 0, 0, 0, 0, 0), self.history), (lane,))

    def test_one_lane_with_the_row_first(self):
        lane = (
            (1, 1, 1), (2, 1, 2), (1, 0, 2), (2, 1, 3), (1, 1, 4), (2, 0, 4), (1, 0, 5), (2, 1, 6),
            (1, 1, 7), (2, 0, 7),
        )
        self.assertEqual(lanes_of((1, 1, 1, 0, 0, 0, 0, 0, 0), self.history), (lane,))

    def test_two_lanes_whatever_is_first(self):
        lanes = (
            ((1, 1, 1), (1, 0, 2), (1, 1, 4), (1, 0, 5), (1, 1, 7)),
            ((2, 1, 2), (2, 1, 3), (2, 0, 4), (2, 1, 6), (2, 0, 7)),
        )
        for first in (0, 1):
            self.assertEqual(lanes_of((2, first, 1, 0, 0, 0, 0, 0, 0), self.history), lanes)

    def test_the_empty_history(self):
        for first in (0, 1):
            self.assertEqual(lanes_of((1, first, 1, 0, 0, 0, 0, 0, 0), ()), ((),))
            self.assertEqual(lanes_of((2, first, 1, 0, 0, 0, 0, 0, 0), ()), ((), ()))

    def test_a_lane_that_stays_empty(self):
        self.assertEqual(lanes_of(GREATEST, (2, 2)), ((), ((2, 1, 1), (2, 1, 2))))
        self.assertEqual(lanes_of(GREATEST, (1, 0)), (((1, 1, 1), (1, 0, 2)), ()))

    def test_the_whole_history_whatever_the_lag(self):
        for history in ((1, 2, 1, 2, 0) * 20, (1,) * 1000):
            self.assertEqual(lanes_of(LEAST, history), (entries_of(history),))

    def test_by_name_and_nothing_changes(self):
        way, history = (2, 0, 1, 0, 0, 0, 0, 0, 0), (1, 2)
        self.assertEqual(lanes_of(history=history, way=way), (((1, 1, 1), (1, 0, 2)), ((2, 1, 2),)))
        self.assertEqual((way, history), ((2, 0, 1, 0, 0, 0, 0, 0, 0), (1, 2)))


if __name__ == "__main__":
    unittest.main()
