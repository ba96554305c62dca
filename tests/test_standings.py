import copy
import unittest

from given import APART, AHEAD, EMPTY, random_standings, standing_of, ways_of_all_kinds
from movedrows.standings import first_standing, is_quiet, is_true, ranked, showing, shown_rows
from plain import Row, first_of, plain_quiet, plain_ranked, plain_true

GREAT = 10 ** 30


class FirstStanding(unittest.TestCase):
    def test_one_lane(self):
        self.assertEqual(first_standing(AHEAD), (0, 0, (((), ()),), ((), ()), 0, (0, 0)))

    def test_two_lanes(self):
        self.assertEqual(first_standing(APART), (0, 0, (((), ()), ((), ())), ((), ()), 0, (0, 0)))

    def test_the_lanes_alone_matter(self):
        for way in ways_of_all_kinds():
            self.assertEqual(first_standing(way=way), first_of(way))


class Ranked(unittest.TestCase):
    def assert_ranked(self, standing, expected):
        kept = copy.deepcopy(standing)
        self.assertEqual(ranked(standing), expected)
        self.assertEqual(ranked(standing=standing), expected)
        self.assertEqual(standing, kept)
        # What has ranks already stays as it is.
        self.assertEqual(ranked(expected), expected)

    def test_no_stamps(self):
        for way in (AHEAD, APART):
            self.assert_ranked(first_standing(way), first_standing(way))

    def test_now(self):
        self.assert_ranked(standing_of(1, 9), standing_of(1, 1))
        self.assert_ranked(standing_of(1, GREAT), standing_of(1, 1))
        self.assert_ranked(standing_of(1, 1), standing_of(1, 1))

    def test_both_parts_of_both_lanes(self):
        lanes = ((((1, 0, 5),), ((1, 1, 3), (1, 0, 5))), (((2, 1, GREAT), (2, 0, 1)), ((2, 1, 8),)))
        expected = ((((1, 0, 3),), ((1, 1, 2), (1, 0, 3))), (((2, 1, 5), (2, 0, 1)), ((2, 1, 4),)))
        self.assert_ranked(standing_of(0, 0, lanes), standing_of(0, 0, expected))

    def test_what_is_held(self):
        for kind in (0, 1, 2):
            self.assert_ranked(standing_of(held=((kind, 7), ())), standing_of(held=((kind, 1), ())))
            self.assert_ranked(standing_of(held=((), (kind, 7))), standing_of(held=((), (kind, 1))))
        self.assert_ranked(standing_of(held=((1, GREAT), (1, 2))), standing_of(held=((1, 2), (1, 1))))
        self.assert_ranked(standing_of(held=((2, 4), (0, 4))), standing_of(held=((2, 1), (0, 1))))

    def test_the_second_part_of_the_memory_alone(self):
        self.assert_ranked(standing_of(memory=(0, 6)), standing_of(memory=(0, 1)))
        self.assert_ranked(standing_of(memory=(1, 0)), standing_of(memory=(1, 0)))
        # Its first part is no stamp: were it one, now would have another rank.
        self.assert_ranked(standing_of(1, 4, memory=(1, 9)), standing_of(1, 1, memory=(1, 2)))
        self.assert_ranked(standing_of(1, 4, memory=(1, 3)), standing_of(1, 2, memory=(1, 1)))
        self.assert_ranked(standing_of(1, 4, memory=(1, 4)), standing_of(1, 1, memory=(1, 1)))

    def test_stamps_are_ranked_together(self):
        lanes = (((), ((1, 0, GREAT + 2),)), (((2, 1, GREAT + 1),), ()))
        standing = standing_of(2, GREAT + 4, lanes, ((1, GREAT), (0, 3)), 0, (0, GREAT + 3))
        expected = standing_of(2, 6, (((), ((1, 0, 4),)), (((2, 1, 3),), ())), ((1, 2), (0, 1)), 0, (0, 5))
        self.assert_ranked(standing, expected)

    def test_the_same_stamp_in_several_places_has_one_rank(self):
        lanes = ((((1, 0, 30),), ((1, 1, 30),)), (((2, 1, 30),), ((2, 0, 30),)))
        same = ((((1, 0, 2),), ((1, 1, 2),)), (((2, 1, 2),), ((2, 0, 2),)))
        self.assert_ranked(
            standing_of(1, 30, lanes, ((1, 30), (2, 30)), 3, (1, 20)),
            standing_of(1, 2, same, ((1, 2), (2, 2)), 3, (1, 1)))

    def test_0_stays_0(self):
        self.assert_ranked(standing_of(0, 0, held=((1, 50), ())), standing_of(0, 0, held=((1, 1), ())))
        self.assert_ranked(standing_of(0, 50, memory=(0, 0)), standing_of(0, 1, memory=(0, 0)))

    def test_one_lane(self):
        lanes = ((((2, 1, 11),), ((1, 0, 12),)),)
        expected = ((((2, 1, 1),), ((1, 0, 2),)),)
        self.assert_ranked((1, 12, lanes, ((), ()), 2, (0, 0)), (1, 2, expected, ((), ()), 2, (0, 0)))

    def test_any_stamps_in_the_same_order(self):
        for way in ways_of_all_kinds():
            for place, now, lanes, held, phase, memory in random_standings(way, 5):
                def far(stamp):
                    return stamp and GREAT * stamp ** 3 + stamp
                lanes_far = tuple(tuple(tuple((k, n, far(s)) for k, n, s in part) for part in lane) for lane in lanes)
                held_far = tuple(slot and (slot[0], far(slot[1])) for slot in held)
                standing = (place, far(now), lanes_far, held_far, phase, (memory[0], far(memory[1])))
                self.assertEqual(plain_ranked(standing), (place, now, lanes, held, phase, memory))
                self.assert_ranked(standing, (place, now, lanes, held, phase, memory))


class Shown(unittest.TestCase):
    def assert_shown(self, held, rows, number):
        standing = standing_of(1, 3, held=held)
        self.assertEqual(shown_rows(standing), rows)
        self.assertEqual(shown_rows(standing=standing), rows)
        self.assertEqual(showing(standing), number)
        self.assertEqual(showing(standing=standing), number)

    def test_nothing_held(self):
        self.assert_shown(((), ()), (), 0)

    def test_strikes_and_absences_show_nothing(self):
        for one in ((), (0, 1), (2, 2)):
            for other in ((), (0, 3), (2, 1)):
                self.assert_shown((one, other), (), 0)

    def test_a_row_under_the_first_key(self):
        for other in ((), (0, 3), (2, 1)):
            self.assert_shown(((1, 2), other), ((1, 2),), 1)

    def test_a_row_under_the_second_key(self):
        for one in ((), (0, 3), (2, 1)):
            self.assert_shown((one, (1, 2)), ((2, 2),), 2)

    def test_rows_under_both(self):
        self.assert_shown(((1, 2), (1, 3)), ((1, 2), (2, 3)), 3)
        self.assert_shown(((1, 3), (1, 2)), ((1, 3), (2, 2)), 3)
        self.assert_shown(((1, 3), (1, 3)), ((1, 3), (2, 3)), 3)


class IsTrue(unittest.TestCase):
    def assert_true(self, expected, place, now, held):
        standing = standing_of(place, now, held=held)
        self.assertIs(is_true(standing), expected)
        self.assertIs(is_true(standing=standing), expected)

    def test_place_0(self):
        for held in (((), ()), ((0, 1), ()), ((2, 2), (0, 1))):
            self.assert_true(True, 0, 2, held)
        self.assert_true(True, 0, 0, ((), ()))
        for held in (((1, 1), ()), ((), (1, 2)), ((1, 2), (1, 1)), ((0, 1), (1, 2))):
            self.assert_true(False, 0, 2, held)

    def test_the_row_under_its_place(self):
        for other in ((), (0, 1), (0, 2), (2, 2)):
            self.assert_true(True, 1, 2, ((1, 2), other))
            self.assert_true(True, 2, 2, (other, (1, 2)))

    def test_another_stamp(self):
        for stamp in (1, 3):
            self.assert_true(False, 1, 2, ((1, stamp), ()))
            self.assert_true(False, 2, 2, ((), (1, stamp)))

    def test_the_other_key(self):
        self.assert_true(False, 2, 2, ((1, 2), ()))
        self.assert_true(False, 1, 2, ((), (1, 2)))

    def test_two_rows_or_none(self):
        self.assert_true(False, 1, 2, ((1, 2), (1, 1)))
        self.assert_true(False, 2, 2, ((1, 2), (1, 2)))
        self.assert_true(False, 1, 2, ((), ()))
        self.assert_true(False, 2, 2, ((0, 2), (2, 2)))

    def test_untaken_entries_and_phases_do_not_matter(self):
        lanes = ((((1, 0, 1),), ((1, 1, 2),)), EMPTY)
        for phase in range(5):
            self.assertIs(is_true(standing_of(1, 2, lanes, ((1, 2), ()), phase)), True)
            self.assertIs(is_true(standing_of(2, 2, lanes, ((1, 2), ()), phase)), False)


class IsQuiet(unittest.TestCase):
    def assert_quiet(self, expected, lanes, phase):
        standing = standing_of(1, 3, lanes, ((1, 2), (1, 3)), phase)
        self.assertIs(is_quiet(standing), expected)
        self.assertIs(is_quiet(standing=standing), expected)

    def test_phases(self):
        self.assert_quiet(True, (EMPTY, EMPTY), 0)
        self.assert_quiet(True, (EMPTY,), 0)
        for phase in (1, 2, 3, 4):
            self.assert_quiet(False, (EMPTY, EMPTY), phase)

    def test_untaken_entries(self):
        one, other = ((), ((1, 1, 1),)), ((), ((2, 1, 1),))
        for lanes in ((one, EMPTY), (EMPTY, other), (one, other), (one,)):
            for phase in range(5):
                self.assert_quiet(False, lanes, phase)

    def test_entries_of_again(self):
        self.assert_quiet(True, ((((1, 1, 1),), ()), (((2, 0, 1),), ())), 0)
        self.assert_quiet(False, ((((1, 1, 1),), ()), (((2, 0, 1),), ((2, 1, 2),))), 0)


class ByThePlainTelling(unittest.TestCase):
    def test_standings_of_all_kinds(self):
        for way in ways_of_all_kinds():
            for standing in random_standings(way, 20):
                row = Row(way, standing)
                with self.subTest(standing=standing):
                    rows = row.shown()
                    self.assertEqual(ranked(standing), standing)
                    self.assertEqual(shown_rows(standing), rows)
                    self.assertEqual(showing(standing), 3 if len(rows) == 2 else rows[0][0] if rows else 0)
                    self.assertIs(is_true(standing), plain_true(standing, row))
                    self.assertIs(is_quiet(standing), plain_quiet(standing))


if __name__ == "__main__":
    unittest.main()
