"""Which steps can be done: the second column of the table of point 8, and their order."""

import copy
import unittest

from given import AHEAD, APART, EMPTY, random_doubles, random_standings, standing_of, ways_of_all_kinds, with_all_let
from given import with_parts
from plain import WORDS, plain_ranked, plain_steps
from movedrows.standings import first_standing
from movedrows.steps import steps_from

LAG, MARKS, SLIPS, PRESS, WIPE, PICTURE, PEEKS = range(2, 9)
PHASES = (0, 1, 2, 3, 4)


def steps_of(word, way, standing):
    """Return the steps with this word that can be done."""
    return tuple(step for step in steps_from(way, standing) if step[0] == word)


def one_lane(again=(), untaken=(), phase=0, place=1):
    """Return a standing with one lane, in which now is above all stamps of the lane."""
    return (place, 9, ((tuple(again), tuple(untaken)),), ((), ()), phase, (0, 0))


class Change(unittest.TestCase):
    def places(self, way, standing):
        return tuple(place for _, place in steps_of("change", way, standing))

    def test_each_place_but_0_from_0(self):
        for way in (AHEAD, APART):
            self.assertEqual(self.places(way, first_standing(way)), (1, 2))
            for place in (1, 2):
                standing = (place,) + first_standing(way)[1:]
                self.assertEqual(self.places(way, standing), (0, 1, 2))

    def test_in_every_phase(self):
        for picture in (1, 2):
            for phase in PHASES:
                standing = one_lane(phase=phase)
                self.assertEqual(self.places(with_parts(AHEAD, {PICTURE: picture}), standing), (0, 1, 2))

    def test_lag_in_one_lane(self):
        entries = ((1, 1, 1), (1, 0, 2), (2, 1, 2), (2, 1, 3))
        for lag in (1, 2, 3):
            way = with_parts(AHEAD, {LAG: lag})
            for many, stamps in ((0, 0), (1, 1), (2, 2), (3, 2), (4, 3)):
                expected = (0, 1, 2) if stamps < lag else ()
                self.assertEqual(self.places(way, one_lane(untaken=entries[:many])), expected)

    def test_lag_in_two_lanes(self):
        one, other = ((), ((1, 1, 1),)), ((), ((2, 1, 2),))
        # From the first key: to 0 and to itself tells the first lane alone, to the second key both.
        self.assertEqual(self.places(APART, standing_of(1, 3, (EMPTY, other))), (0, 1))
        self.assertEqual(self.places(APART, standing_of(1, 3, (one, EMPTY))), ())
        self.assertEqual(self.places(APART, standing_of(0, 3, (one, EMPTY))), (2,))
        self.assertEqual(self.places(APART, standing_of(2, 3, (one, EMPTY))), (0, 2))
        self.assertEqual(self.places(APART, standing_of(2, 3, (one, other))), ())
        twice = ((), ((1, 1, 1), (1, 1, 2)))
        self.assertEqual(self.places(with_parts(APART, {LAG: 2}), standing_of(1, 3, (one, other))), (0, 1, 2))
        self.assertEqual(self.places(with_parts(APART, {LAG: 2}), standing_of(1, 3, (twice, other))), ())
        self.assertEqual(self.places(with_parts(APART, {LAG: 2}), standing_of(0, 3, (twice, other))), (2,))

    def test_entries_of_again_do_not_count(self):
        self.assertEqual(self.places(AHEAD, one_lane(again=((1, 1, 1), (1, 1, 2)))), (0, 1, 2))
        self.assertEqual(self.places(AHEAD, one_lane(again=((1, 1, 1),), untaken=((1, 1, 2),))), ())

    def test_entries_with_one_stamp_count_once(self):
        entries = ((1, 0, 1), (2, 1, 1), (1, 0, 1))
        self.assertEqual(self.places(with_parts(AHEAD, {LAG: 2}), one_lane(untaken=entries)), (0, 1, 2))
        self.assertEqual(self.places(AHEAD, one_lane(untaken=entries)), ())

    def test_a_lane_into_which_nothing_is_told_has_too_many(self):
        # After a fall there may be more than lag of them.
        many = ((), ((1, 1, 1), (1, 1, 2)))
        for place, now in ((0, 3), (1, 3), (2, 3)):
            self.assertEqual(self.places(APART, standing_of(place, now, (many, EMPTY))), ())
            swapped = (EMPTY, ((), ((2, 1, 1), (2, 1, 2))))
            self.assertEqual(self.places(APART, standing_of(place, now, swapped)), ())
        self.assertEqual(self.places(with_parts(APART, {LAG: 2}), standing_of(2, 3, (many, EMPTY))), (0, 2))

    def test_lag_while_a_picture_is_being_taken(self):
        full, fuller = ((1, 1, 1),), ((1, 1, 1), (1, 1, 2))
        for phase in (1, 2, 3, 4):
            ahead, behind = with_parts(AHEAD, {PICTURE: 1}), with_parts(AHEAD, {PICTURE: 2})
            self.assertEqual(self.places(ahead, one_lane(untaken=full, phase=phase)), ())
            # With picture 2 nothing is told, so that a full lane lets each change.
            self.assertEqual(self.places(behind, one_lane(untaken=full, phase=phase)), (0, 1, 2))
            self.assertEqual(self.places(behind, one_lane(untaken=fuller, phase=phase)), ())
        self.assertEqual(self.places(with_parts(AHEAD, {PICTURE: 2}), one_lane(untaken=full)), ())


class Take(unittest.TestCase):
    def test_untaken_entries(self):
        self.assertEqual(steps_of("take", AHEAD, one_lane()), ())
        self.assertEqual(steps_of("take", AHEAD, one_lane(untaken=((1, 1, 1),))), (("take", 0),))
        one, other = ((), ((1, 1, 1),)), ((), ((2, 1, 1),))
        self.assertEqual(steps_of("take", APART, standing_of(1, 1, (one, EMPTY))), (("take", 0),))
        self.assertEqual(steps_of("take", APART, standing_of(1, 1, (EMPTY, other))), (("take", 1),))
        self.assertEqual(steps_of("take", APART, standing_of(1, 1, (one, other))), (("take", 0), ("take", 1)))

    def test_phases(self):
        way = with_parts(AHEAD, {PICTURE: 1})
        for phase in PHASES:
            expected = (("take", 0),) if phase == 0 else ()
            self.assertEqual(steps_of("take", way, one_lane(untaken=((1, 1, 1),), phase=phase)), expected)

    def test_marks(self):
        entries = ((1, 1, 1), (1, 0, 2), (2, 1, 2))
        for marks in (0, 1, 2):
            for many in (0, 1, 2, 3):
                expected = (("take", 0),) if marks == 0 or many < marks else ()
                standing = one_lane(again=entries[:many], untaken=((2, 1, 3),))
                self.assertEqual(steps_of("take", with_parts(AHEAD, {MARKS: marks}), standing), expected)
        # Only the lane itself counts.
        lanes = ((((1, 1, 1),), ((1, 1, 2),)), ((), ((2, 1, 3),)))
        self.assertEqual(steps_of("take", with_parts(APART, {MARKS: 1}), standing_of(2, 3, lanes)), (("take", 1),))


class Slip(unittest.TestCase):
    def test_slips_and_untaken_entries(self):
        slips = with_parts(AHEAD, {SLIPS: 1})
        self.assertEqual(steps_of("slip", AHEAD, one_lane(untaken=((1, 1, 1),))), ())
        self.assertEqual(steps_of("slip", slips, one_lane(untaken=((1, 1, 1),))), (("slip", 0),))
        self.assertEqual(steps_of("slip", slips, one_lane(again=((1, 1, 1),))), ())
        lanes = (EMPTY, ((), ((2, 1, 1),)))
        self.assertEqual(steps_of("slip", with_parts(APART, {SLIPS: 1}), standing_of(2, 1, lanes)), (("slip", 1),))

    def test_phases(self):
        way = with_parts(AHEAD, {PICTURE: 1, SLIPS: 1})
        for phase in PHASES:
            expected = (("slip", 0),) if phase == 0 else ()
            self.assertEqual(steps_of("slip", way, one_lane(untaken=((1, 1, 1),), phase=phase)), expected)

    def test_marks_do_not_matter(self):
        way = with_parts(AHEAD, {SLIPS: 1, MARKS: 1})
        standing = one_lane(again=((1, 1, 1),), untaken=((1, 1, 2),))
        self.assertEqual(steps_of("slip", way, standing), (("slip", 0),))
        self.assertEqual(steps_of("take", way, standing), ())


class MarkAndFall(unittest.TestCase):
    def test_entries_of_again(self):
        for word in ("mark", "fall"):
            for marks in (0, 1, 2):
                way = with_parts(AHEAD, {MARKS: marks})
                self.assertEqual(steps_of(word, way, one_lane(untaken=((1, 1, 1),))), ())
                self.assertEqual(steps_of(word, way, one_lane(again=((1, 1, 1),))), ((word, 0),))
            one, other = (((1, 1, 1),), ()), (((2, 1, 1),), ())
            self.assertEqual(steps_of(word, APART, standing_of(1, 1, (one, EMPTY))), ((word, 0),))
            self.assertEqual(steps_of(word, APART, standing_of(1, 1, (EMPTY, other))), ((word, 1),))
            self.assertEqual(steps_of(word, APART, standing_of(1, 1, (one, other))), ((word, 0), (word, 1)))

    def test_in_every_phase(self):
        way = with_parts(AHEAD, {PICTURE: 1, MARKS: 1})
        for word in ("mark", "fall"):
            for phase in PHASES:
                self.assertEqual(steps_of(word, way, one_lane(again=((1, 1, 1),), phase=phase)), ((word, 0),))


class Press(unittest.TestCase):
    way = with_parts(AHEAD, {PRESS: 1})

    def presses(self, way, standing):
        return tuple(step[1:] for step in steps_of("press", way, standing))

    def test_a_later_entry_with_its_key(self):
        self.assertEqual(self.presses(self.way, one_lane(untaken=((1, 1, 1), (1, 1, 2)))), ((0, 0),))
        self.assertEqual(self.presses(self.way, one_lane(untaken=((1, 1, 1), (2, 1, 2)))), ())
        self.assertEqual(self.presses(self.way, one_lane(untaken=((1, 0, 1), (2, 1, 1), (1, 1, 2)))), ((0, 0),))
        entries = ((1, 1, 1), (1, 0, 2), (2, 1, 2), (2, 0, 3), (1, 1, 3))
        self.assertEqual(self.presses(self.way, one_lane(untaken=entries)), ((0, 0), (0, 1), (0, 2)))

    def test_entries_of_again_and_untaken_are_counted_on(self):
        again, untaken = ((1, 1, 1), (1, 0, 2)), ((2, 1, 2), (2, 0, 3), (1, 1, 3))
        self.assertEqual(self.presses(self.way, one_lane(again, untaken)), ((0, 0), (0, 1), (0, 2)))
        self.assertEqual(self.presses(self.way, one_lane(again)), ((0, 0),))
        self.assertEqual(self.presses(self.way, one_lane(again[:1], untaken[:1])), ())

    def test_press_0(self):
        self.assertEqual(self.presses(AHEAD, one_lane(untaken=((1, 1, 1), (1, 1, 2)))), ())

    def test_in_every_phase(self):
        way = with_parts(self.way, {PICTURE: 1})
        for phase in PHASES:
            self.assertEqual(self.presses(way, one_lane(untaken=((1, 1, 1), (1, 1, 2)), phase=phase)), ((0, 0),))

    def test_each_lane_by_itself(self):
        way = with_parts(APART, {PRESS: 1, LAG: 2})
        lanes = ((((1, 1, 1),), ()), (((2, 1, 2),), ((2, 0, 3), (2, 1, 4))))
        self.assertEqual(self.presses(way, standing_of(2, 4, lanes)), ((1, 0), (1, 1)))


class Wipe(unittest.TestCase):
    def wipes(self, wipe, standing):
        return tuple(step[1:] for step in steps_of("wipe", with_parts(AHEAD, {WIPE: wipe, PICTURE: 1}), standing))

    def assert_wipes(self, again, untaken, *expected):
        """Check the indices for wipe 0, 1, 2, 3, in each phase."""
        for phase in PHASES:
            for wipe, indices in enumerate(((),) + expected):
                with self.subTest(phase=phase, wipe=wipe):
                    found = self.wipes(wipe, one_lane(again, untaken, phase))
                    self.assertEqual(found, tuple((0, index) for index in indices))

    def test_no_strike(self):
        self.assert_wipes(((1, 1, 1),), ((2, 1, 2),), (), (), ())

    def test_a_strike_of_again(self):
        self.assert_wipes(((1, 0, 1),), (), (0,), (0,), (0,))

    def test_an_untaken_strike(self):
        self.assert_wipes((), ((1, 0, 1),), (), (0,), (0,))
        self.assert_wipes(((2, 1, 1),), ((1, 0, 2),), (), (1,), (1,))

    def test_an_entry_ahead_with_its_key(self):
        self.assert_wipes(((1, 1, 1), (1, 0, 2)), (), (), (), (1,))
        self.assert_wipes(((1, 1, 1),), ((1, 0, 2),), (), (), (1,))
        self.assert_wipes((), ((1, 1, 1), (1, 0, 2)), (), (), (1,))
        self.assert_wipes(((1, 0, 1), (1, 0, 2)), (), (0,), (0,), (0, 1))

    def test_an_entry_ahead_with_the_other_key(self):
        self.assert_wipes(((2, 1, 1), (1, 0, 2)), (), (1,), (1,), (1,))
        self.assert_wipes((), ((2, 1, 1), (1, 0, 2)), (), (1,), (1,))

    def test_a_later_entry_does_not_matter(self):
        self.assert_wipes(((1, 0, 1), (1, 1, 2)), ((1, 0, 3),), (0,), (0,), (0, 2))
        self.assert_wipes((), ((2, 0, 1), (1, 1, 1), (2, 1, 2)), (), (0,), (0,))

    def test_each_lane_by_itself(self):
        lanes = ((((1, 0, 1),), ()), (((2, 0, 2),), ((2, 1, 3), (2, 0, 4))))
        expected = ((), ((0, 0), (1, 0)), ((0, 0), (1, 0)), ((0, 0), (1, 0), (1, 2)))
        for wipe in range(4):
            steps = steps_of("wipe", with_parts(APART, {WIPE: wipe}), standing_of(0, 4, lanes))
            self.assertEqual(tuple(step[1:] for step in steps), expected[wipe])


class PictureAndLooks(unittest.TestCase):
    def test_picture(self):
        for picture in (0, 1, 2):
            way = with_parts(AHEAD, {PICTURE: picture})
            self.assertEqual(steps_of("picture", way, one_lane()), (("picture",),) if picture else ())
            for phase in (1, 2, 3, 4):
                self.assertEqual(steps_of("picture", way, one_lane(phase=phase)), ())

    def test_looks(self):
        expected = {0: (), 1: (1, 2), 2: (2,), 3: (1,), 4: ()}
        for picture in (1, 2):
            for phase in PHASES:
                steps = steps_of("look", with_parts(AHEAD, {PICTURE: picture}), one_lane(phase=phase))
                self.assertEqual(steps, tuple(("look", key) for key in expected[phase]))

    def test_end(self):
        for phase in PHASES:
            steps = steps_of("end", with_parts(AHEAD, {PICTURE: 1}), one_lane(phase=phase))
            self.assertEqual(steps, (("end",),) if phase == 4 else ())

    def test_peeks(self):
        for phase in PHASES:
            self.assertEqual(steps_of("peek", with_parts(AHEAD, {PICTURE: 1}), one_lane(phase=phase)), ())
            steps = steps_of("peek", with_parts(AHEAD, {PICTURE: 1, PEEKS: 1}), one_lane(phase=phase))
            self.assertEqual(steps, (("peek", 1), ("peek", 2)) if phase == 0 else ())


class Order(unittest.TestCase):
    def test_by_their_words_and_then_as_tuples(self):
        part = (((1, 0, 1),), ((1, 1, 2), (1, 0, 3)))
        other = (((2, 0, 1),), ((2, 1, 2), (2, 0, 3)))
        expected = (
            ("change", 0), ("change", 1), ("change", 2), ("take", 0), ("take", 1), ("slip", 0), ("slip", 1),
            ("mark", 0), ("mark", 1), ("fall", 0), ("fall", 1),
            ("press", 0, 0), ("press", 0, 1), ("press", 1, 0), ("press", 1, 1),
            ("wipe", 0, 0), ("wipe", 0, 2), ("wipe", 1, 0), ("wipe", 1, 2), ("picture",), ("peek", 1), ("peek", 2),
        )
        standing = standing_of(1, 3, (part, other))
        self.assertEqual(steps_from(with_all_let(2), standing), expected)
        self.assertEqual(steps_from(standing=standing, way=with_all_let(2)), expected)

    def test_more_than_ten_entries(self):
        # As tuples, the index 10 comes after 9, which it would not as a text.
        standing = one_lane(untaken=((1, 1, 1),) * 12)
        steps = steps_of("press", with_all_let(1), standing)
        self.assertEqual(steps, tuple(("press", 0, index) for index in range(11)))

    def test_while_a_picture_is_being_taken(self):
        standing = one_lane(again=((1, 0, 1),), phase=1)
        expected = (
            ("change", 0), ("change", 1), ("change", 2), ("mark", 0), ("fall", 0), ("wipe", 0, 0),
            ("look", 1), ("look", 2))
        self.assertEqual(steps_from(with_all_let(1), standing), expected)


class ByThePlainTelling(unittest.TestCase):
    def test_standings_of_all_kinds(self):
        seen = set()
        for way in ways_of_all_kinds():
            for standing in random_standings(way, 25):
                kept = copy.deepcopy((way, standing))
                steps = steps_from(way, standing)
                with self.subTest(way=way, standing=standing):
                    self.assertEqual(steps, plain_steps(way, standing))
                    self.assertEqual((way, standing), kept)
                seen.update(step[0] for step in steps)
        self.assertEqual(seen, set(WORDS))

    def test_it_does_not_depend_on_what_is_held_and_remembered(self):
        for way in ways_of_all_kinds():
            for double in random_doubles(way, 3):
                bare = plain_ranked(double[:3] + (((), ()), double[4], (0, 0)))
                held = plain_ranked(double[:3] + (double[3], double[4], (1, 77)))
                self.assertEqual(steps_from(way, held), steps_from(way, bare))


if __name__ == "__main__":
    unittest.main()
