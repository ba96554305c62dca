"""What steps do: the third column of the table of point 8, and point 9."""

import copy
import unittest

from given import AHEAD, APART, EMPTY, NO_INTEGERS, NO_STEPS, own_rules, random_standings, standing_of
from given import ways_of_all_kinds, with_all_let, with_parts
from movedrows.errors import CannotStep
from movedrows.rules import named_rules
from movedrows.standings import first_standing
from movedrows.steps import behind_step, steps_from
from plain import WORDS, forms, plain_behind, plain_steps

FIRST, LAG, MARKS, SLIPS, PRESS, WIPE, PICTURE, PEEKS = range(1, 9)
PHASES = (0, 1, 2, 3, 4)
OVER, KEY, ROW = named_rules("over"), named_rules("key"), named_rules("row")


def rules_with_all(action):
    """Return a table of this action alone."""
    return (action,) * 27


class Behind(unittest.TestCase):
    def assert_behind(self, way, rules, standing, step, expected):
        kept = copy.deepcopy((way, rules, standing, step))
        self.assertEqual(behind_step(way, rules, standing, step), expected)
        self.assertEqual(behind_step(step=step, standing=standing, rules=rules, way=way), expected)
        self.assertEqual((way, rules, standing, step), kept)

    def assert_cannot(self, way, standing, step, rules=OVER):
        kept = copy.deepcopy(step)
        with self.assertRaises(CannotStep) as caught:
            behind_step(way, rules, standing, step)
        self.assertIsNone(caught.exception.index)
        self.assertEqual(step, kept)


class Change(Behind):
    def assert_told(self, way, place, later, lanes):
        """Check what a change tells while the lanes are empty."""
        standing = (place, 1 if place else 0) + first_standing(way)[2:]
        # The stamp ahead is gone then, so that the new one has the rank 1.
        told = tuple(((), tuple((key, kind, 1) for key, kind in lane)) for lane in lanes)
        self.assert_behind(way, OVER, standing, ("change", later), (later, 1, told, ((), ()), 0, (0, 0)))

    def test_one_lane(self):
        for first in (0, 1):
            way = with_parts(AHEAD, {FIRST: first})
            self.assert_told(way, 0, 1, (((1, 1),),))
            self.assert_told(way, 0, 2, (((2, 1),),))
            self.assert_told(way, 1, 0, (((1, 0),),))
            self.assert_told(way, 2, 0, (((2, 0),),))
            self.assert_told(way, 1, 1, (((1, 1),),))
            self.assert_told(way, 2, 2, (((2, 1),),))

    def test_one_lane_with_two_entries(self):
        self.assert_told(AHEAD, 1, 2, (((1, 0), (2, 1)),))
        self.assert_told(AHEAD, 2, 1, (((2, 0), (1, 1)),))
        row_first = with_parts(AHEAD, {FIRST: 1})
        self.assert_told(row_first, 1, 2, (((2, 1), (1, 0)),))
        self.assert_told(row_first, 2, 1, (((1, 1), (2, 0)),))

    def test_two_lanes(self):
        for first in (0, 1):
            way = with_parts(APART, {FIRST: first})
            self.assert_told(way, 0, 1, (((1, 1),), ()))
            self.assert_told(way, 0, 2, ((), ((2, 1),)))
            self.assert_told(way, 1, 0, (((1, 0),), ()))
            self.assert_told(way, 2, 0, ((), ((2, 0),)))
            self.assert_told(way, 1, 1, (((1, 1),), ()))
            self.assert_told(way, 2, 2, ((), ((2, 1),)))
            self.assert_told(way, 1, 2, (((1, 0),), ((2, 1),)))
            self.assert_told(way, 2, 1, (((1, 1),), ((2, 0),)))

    def test_the_entries_go_to_the_ends_of_the_untaken_ones(self):
        way = with_parts(AHEAD, {LAG: 3, MARKS: 1})
        standing = (1, 2, ((((1, 1, 1),), ((1, 1, 2),)),), ((1, 1), ()), 0, (0, 0))
        after = (2, 3, ((((1, 1, 1),), ((1, 1, 2), (1, 0, 3), (2, 1, 3))),), ((1, 1), ()), 0, (0, 0))
        self.assert_behind(way, OVER, standing, ("change", 2), after)

    def test_now_is_above_all_stamps(self):
        lanes = ((((1, 1, 2),), ()), (((2, 1, 1),), ()))
        after = ((((1, 1, 2),), ((1, 1, 5),)), (((2, 1, 1),), ()))
        # What is held and the memory have greater stamps than the lanes and now.
        self.assert_behind(
            APART, OVER, standing_of(0, 2, lanes, ((1, 3), ()), 0, (0, 4)), ("change", 1),
            standing_of(1, 5, after, ((1, 3), ()), 0, (0, 4)))
        self.assert_behind(
            APART, OVER, standing_of(0, 2, lanes, ((), (2, 4)), 0, (0, 3)), ("change", 1),
            standing_of(1, 5, after, ((), (2, 4)), 0, (0, 3)))

    def test_a_stamp_that_is_gone_leaves_no_gap(self):
        standing = standing_of(1, 2, held=((1, 1), ()))
        after = standing_of(0, 2, (((), ((1, 0, 2),)), EMPTY), ((1, 1), ()))
        self.assert_behind(APART, OVER, standing, ("change", 0), after)

    def test_while_a_picture_is_being_taken(self):
        for phase in PHASES:
            standing = standing_of(1, 1, phase=phase)
            ahead = standing_of(2, 1, (((), ((1, 0, 1),)), ((), ((2, 1, 1),))), phase=phase)
            self.assert_behind(with_parts(APART, {PICTURE: 1}), OVER, standing, ("change", 2), ahead)
            behind = standing_of(2, 1, phase=phase) if phase else ahead
            self.assert_behind(with_parts(APART, {PICTURE: 2}), OVER, standing, ("change", 2), behind)
            one = (1, 1, (EMPTY,), ((1, 1), ()), phase, (0, 0))
            told = ((), ((1, 0, 2), (2, 1, 2)))
            one_ahead = (2, 2, (told,), ((1, 1), ()), phase, (0, 0))
            one_behind = (2, 2, (EMPTY,), ((1, 1), ()), phase, (0, 0)) if phase else one_ahead
            self.assert_behind(with_parts(AHEAD, {PICTURE: 1}), OVER, one, ("change", 2), one_ahead)
            self.assert_behind(with_parts(AHEAD, {PICTURE: 2}), OVER, one, ("change", 2), one_behind)

    def test_no_rule_is_asked(self):
        for action in range(6):
            standing = standing_of(1, 1, held=((1, 1), (2, 1)))
            after = standing_of(0, 2, (((), ((1, 0, 2),)), EMPTY), ((1, 1), (2, 1)))
            self.assert_behind(APART, rules_with_all(action), standing, ("change", 0), after)


class Take(Behind):
    def test_with_each_action(self):
        standing = standing_of(2, 3, (EMPTY, ((), ((2, 1, 3),))), ((1, 1), (0, 2)))
        after = {
            0: ((1, 1), (0, 2)), 1: ((1, 1), (1, 2)), 2: ((), (1, 1)), 3: ((1, 1), ()), 4: ((), ()), 5: ((), (0, 1))}
        now = {0: 3, 1: 2, 2: 1, 3: 2, 4: 1, 5: 2}
        for action in range(6):
            self.assert_behind(
                APART, rules_with_all(action), standing, ("take", 1), standing_of(2, now[action], held=after[action]))

    def test_the_first_untaken_entry_is_taken(self):
        way = with_parts(AHEAD, {LAG: 2})
        standing = (2, 2, (((), ((1, 1, 1), (1, 0, 2), (2, 1, 2))),), ((), ()), 0, (0, 0))
        after = (2, 2, (((), ((1, 0, 2), (2, 1, 2))),), ((1, 1), ()), 0, (0, 0))
        self.assert_behind(way, OVER, standing, ("take", 0), after)
        last = (2, 1, (((), ((2, 1, 1),)),), ((), ()), 0, (0, 0))
        self.assert_behind(way, OVER, after, ("take", 0), last)
        self.assert_behind(way, OVER, last, ("take", 0), (2, 1, (EMPTY,), ((), (1, 1)), 0, (0, 0)))

    def test_by_the_named_tables(self):
        standing = (2, 2, (((), ((2, 1, 2),)),), ((1, 1), ()), 0, (0, 0))
        for rules, held, now in ((OVER, ((1, 1), (1, 2)), 2), (KEY, ((1, 1), (1, 2)), 2), (ROW, ((), (1, 1)), 1)):
            self.assert_behind(AHEAD, rules, standing, ("take", 0), (2, now, (EMPTY,), held, 0, (0, 0)))

    def test_again_with_marks(self):
        lanes = ((((1, 1, 1),), ((1, 1, 2), (1, 0, 3))),)
        standing = (0, 3, lanes, ((1, 1), ()), 0, (0, 0))
        self.assert_behind(
            with_parts(AHEAD, {LAG: 2, MARKS: 2}), OVER, standing, ("take", 0),
            (0, 3, ((((1, 1, 1), (1, 1, 2)), ((1, 0, 3),)),), ((1, 2), ()), 0, (0, 0)))
        # With marks 0 nothing is put there, and what is there stays.
        self.assert_behind(
            with_parts(AHEAD, {LAG: 2}), OVER, standing, ("take", 0),
            (0, 3, ((((1, 1, 1),), ((1, 0, 3),)),), ((1, 2), ()), 0, (0, 0)))

    def test_the_other_lane_stays(self):
        one, other = (((1, 1, 1),), ((1, 0, 2),)), (((2, 0, 1),), ((2, 1, 2),))
        way = with_parts(APART, {MARKS: 2})
        self.assert_behind(
            way, OVER, standing_of(2, 2, (one, other), ((1, 1), ())), ("take", 1),
            standing_of(2, 2, (one, (((2, 0, 1), (2, 1, 2)), ())), ((1, 1), (1, 2))))
        self.assert_behind(
            way, OVER, standing_of(2, 2, (one, other), ((1, 1), ())), ("take", 0),
            standing_of(2, 2, ((((1, 1, 1), (1, 0, 2)), ()), other)))


class OneLane(Behind):
    """Steps that change one lane and ask no rule."""

    # Both lanes have the same stamps, so that none is gone from the standing when one lane changes.
    one = (((1, 1, 1), (1, 1, 2)), ((1, 0, 3), (1, 1, 4)))
    other = (((2, 1, 1), (2, 1, 2)), ((2, 0, 3), (2, 1, 4)))
    standing = standing_of(1, 7, (one, other), ((1, 5), (2, 6)))

    def assert_lane(self, way, word, rest, part):
        """Check the step in each of the lanes; part is what the first one is then."""
        twin = tuple(tuple((2, kind, stamp) for _, kind, stamp in entries) for entries in part)
        for rules in (OVER, ROW, own_rules(3)):
            after = standing_of(1, 7, (part, self.other), ((1, 5), (2, 6)))
            self.assert_behind(way, rules, self.standing, (word, 0) + rest, after)
            after = standing_of(1, 7, (self.one, twin), ((1, 5), (2, 6)))
            self.assert_behind(way, rules, self.standing, (word, 1) + rest, after)

    def test_slip(self):
        self.assert_lane(with_parts(APART, {SLIPS: 1}), "slip", (), ((), ((1, 1, 4),)))

    def test_mark(self):
        self.assert_lane(APART, "mark", (), ((), ((1, 0, 3), (1, 1, 4))))

    def test_fall(self):
        self.assert_lane(APART, "fall", (), ((), ((1, 1, 1), (1, 1, 2), (1, 0, 3), (1, 1, 4))))

    def test_press(self):
        way = with_parts(APART, {PRESS: 1})
        self.assert_lane(way, "press", (0,), (((1, 1, 2),), ((1, 0, 3), (1, 1, 4))))
        self.assert_lane(way, "press", (1,), (((1, 1, 1),), ((1, 0, 3), (1, 1, 4))))
        self.assert_lane(way, "press", (2,), (((1, 1, 1), (1, 1, 2)), ((1, 1, 4),)))

    def test_wipe(self):
        self.assert_lane(with_parts(APART, {WIPE: 3}), "wipe", (2,), (((1, 1, 1), (1, 1, 2)), ((1, 1, 4),)))

    def test_wipe_of_an_entry_of_again(self):
        lanes = ((((2, 1, 1), (1, 0, 2)), ((1, 1, 3),)),)
        after = (1, 2, ((((2, 1, 1),), ((1, 1, 2),)),), ((), ()), 0, (0, 0))
        for wipe in (1, 2, 3):
            self.assert_behind(
                with_parts(AHEAD, {WIPE: wipe}), OVER, (1, 3, lanes, ((), ()), 0, (0, 0)), ("wipe", 0, 1), after)

    def test_in_the_phases_of_a_picture(self):
        way = with_all_let(2)
        part = (((1, 0, 1),), ((1, 1, 2),))
        for phase in PHASES:
            standing = standing_of(1, 2, (part, EMPTY), phase=phase)
            for step, after, now in (
                    (("mark", 0), ((), ((1, 1, 1),)), 1), (("fall", 0), ((), ((1, 0, 1), (1, 1, 2))), 2),
                    (("press", 0, 0), ((), ((1, 1, 1),)), 1), (("wipe", 0, 0), ((), ((1, 1, 1),)), 1)):
                self.assert_behind(way, OVER, standing, step, standing_of(1, now, (after, EMPTY), phase=phase))


class PictureAndLooks(Behind):
    def test_picture(self):
        lanes = ((((1, 1, 1),), ((1, 0, 2),)), (((2, 1, 2),), ((2, 0, 3),)))
        for picture in (1, 2):
            standing = standing_of(0, 3, lanes, ((1, 1), (1, 2)))
            after = standing_of(0, 3, held=((1, 1), (1, 2)), phase=1)
            self.assert_behind(with_parts(APART, {PICTURE: picture}), ROW, standing, ("picture",), after)
        one = (0, 2, ((((1, 1, 1),), ((1, 0, 2),)),), ((), ()), 0, (0, 0))
        after = (0, 1, (EMPTY,), ((), ()), 1, (0, 0))
        self.assert_behind(with_parts(AHEAD, {PICTURE: 1}), OVER, one, ("picture",), after)

    def test_phases_of_looks(self):
        way = with_parts(APART, {PICTURE: 1})
        for phase, key, later in ((1, 1, 2), (1, 2, 3), (2, 2, 4), (3, 1, 4)):
            standing = standing_of(0, 1, phase=phase)
            self.assert_behind(way, rules_with_all(0), standing, ("look", key), standing_of(0, 1, phase=later))
        for phase, key in ((0, 1), (0, 2), (2, 1), (3, 2), (4, 1), (4, 2)):
            self.assert_cannot(way, standing_of(0, 1, phase=phase), ("look", key))

    def test_end(self):
        way = with_parts(APART, {PICTURE: 1})
        lanes = (((), ((1, 1, 1),)), EMPTY)
        standing = standing_of(1, 1, lanes, ((2, 1), (1, 1)), 4)
        self.assert_behind(way, own_rules(1), standing, ("end",), standing_of(1, 1, lanes, ((2, 1), (1, 1))))

    def test_looks_with_now_0_ask_nothing(self):
        for action in range(6):
            held = ((1, 1), (2, 2))
            for place in (0, 1, 2):
                for key in (1, 2):
                    self.assert_behind(
                        with_parts(APART, {PICTURE: 1}), rules_with_all(action),
                        standing_of(place, 0, held=held, phase=1), ("look", key),
                        standing_of(place, 0, held=held, phase=key + 1))
                    self.assert_behind(
                        with_parts(APART, {PEEKS: 1}), rules_with_all(action), standing_of(place, 0, held=held),
                        ("peek", key), standing_of(place, 0, held=held))

    def test_looks_at_the_key_of_the_place_and_at_another_one(self):
        for place in (0, 1, 2):
            for key in (1, 2):
                # With the action 1 for all, what is held under the key is the entry that asked.
                slot = (1 if place == key else 2, 1)
                held = (slot, ()) if key == 1 else ((), slot)
                self.assert_behind(
                    with_parts(APART, {PICTURE: 2}), rules_with_all(1), standing_of(place, 1, phase=1),
                    ("look", key), standing_of(place, 1, held=held, phase=key + 1))
                self.assert_behind(
                    with_parts(APART, {PEEKS: 1}), rules_with_all(1), standing_of(place, 1),
                    ("peek", key), standing_of(place, 1, held=held))

    def test_what_looks_ask_is_in_no_lane(self):
        lanes = ((((1, 1, 1),), ((1, 1, 2),)), EMPTY)
        standing = standing_of(1, 2, lanes, ((1, 1), (1, 1)))
        way = with_parts(APART, {PEEKS: 1, MARKS: 2, LAG: 2})
        self.assert_behind(way, OVER, standing, ("peek", 1), standing_of(1, 2, lanes, ((1, 2), (1, 1))))
        self.assert_behind(way, OVER, standing, ("peek", 2), standing_of(1, 2, lanes, ((1, 1), ())))
        self.assert_behind(way, KEY, standing, ("peek", 2), standing_of(1, 2, lanes, ((1, 1), (2, 2))))

    def test_looks_have_the_stamp_now(self):
        standing = standing_of(1, 2, held=((1, 1), (1, 3)), phase=2)
        way = with_parts(APART, {PICTURE: 1})
        # The row under the second key is younger than the absence that the look finds.
        self.assert_behind(way, KEY, standing, ("look", 2), standing_of(1, 2, held=((1, 1), (1, 3)), phase=4))
        elder = standing_of(1, 2, held=((1, 1), (1, 2)), phase=2)
        self.assert_behind(way, KEY, elder, ("look", 2), standing_of(1, 2, held=((1, 1), (2, 2)), phase=4))


class Memory(Behind):
    def test_its_first_part_stays_and_its_second_one_is_ranked(self):
        way = with_parts(APART, {MARKS: 1})
        for begun in (0, 1):
            lanes = ((((1, 1, 2),), ()), (((2, 1, 4),), ()))
            standing = standing_of(2, 4, lanes, ((1, 1), ()), 0, (begun, 3))
            lanes = (EMPTY, (((2, 1, 3),), ()))
            self.assert_behind(way, OVER, standing, ("mark", 0), standing_of(2, 3, lanes, ((1, 1), ()), 0, (begun, 2)))

    def test_0_stays_0(self):
        standing = standing_of(0, 0, memory=(1, 0))
        after = standing_of(1, 1, (((), ((1, 1, 1),)), EMPTY), memory=(1, 0))
        self.assert_behind(APART, OVER, standing, ("change", 1), after)

    def test_it_is_not_put_anew(self):
        standing = standing_of(1, 1, (((), ((1, 1, 1),)), EMPTY), memory=(0, 1))
        self.assert_behind(APART, OVER, standing, ("take", 0), standing_of(1, 1, held=((1, 1), ()), memory=(0, 1)))


class CannotBeDone(Behind):
    way = with_all_let(2)
    standing = standing_of(1, 2, ((((1, 0, 1),), ((1, 1, 2), (1, 0, 2))), (((2, 0, 1),), ((2, 1, 2), (2, 0, 2)))))

    def test_no_step(self):
        for standing in (self.standing, first_standing(self.way), standing_of(1, 2, phase=1)):
            for value in NO_STEPS:
                with self.subTest(value=str(value)[:60]):
                    self.assert_cannot(self.way, standing, value)

    def test_lanes_keys_places_and_indices_that_there_are_not(self):
        for part in (-1, -2, 3, 24, 999, 1000, 10 ** 30, -10 ** 30, "0", "1") + NO_INTEGERS:
            with self.subTest(part=part):
                for word in ("change", "take", "slip", "mark", "fall", "peek"):
                    self.assert_cannot(self.way, self.standing, (word, part))
                self.assert_cannot(self.way, standing_of(1, 2, phase=1), ("look", part))
                for word in ("press", "wipe"):
                    self.assert_cannot(self.way, self.standing, (word, part, 0))
                    if part != 3:
                        self.assert_cannot(self.way, self.standing, (word, 0, part))
                        self.assert_cannot(self.way, self.standing, (word, part, part))
        for word in ("take", "slip", "mark", "fall"):
            self.assert_cannot(self.way, self.standing, (word, 2))
            self.assert_cannot(with_all_let(1), (1, 2, self.standing[2][:1]) + self.standing[3:], (word, 1))
        for word in ("press", "wipe"):
            self.assert_cannot(self.way, self.standing, (word, 2, 0))
            self.assert_cannot(self.way, self.standing, (word, 0, 3))
        for key in (0, 3):
            self.assert_cannot(self.way, self.standing, ("peek", key))
            self.assert_cannot(self.way, standing_of(1, 2, phase=1), ("look", key))

    def test_true_and_false_are_no_integers(self):
        # Each of these can be done with 0 or 1.
        for step in (("take", 0), ("take", 1), ("slip", 1), ("mark", 0), ("fall", 1), ("peek", 1), ("change", 1),
                     ("press", 0, 0), ("press", 1, 0), ("wipe", 0, 0), ("press", 1, 1)):
            behind_step(self.way, OVER, self.standing, step)
            for index in range(1, len(step)):
                wrong = step[:index] + (bool(step[index]),) + step[index + 1:]
                self.assert_cannot(self.way, self.standing, wrong)
        self.assert_cannot(self.way, standing_of(1, 2, phase=1), ("look", True))
        self.assert_cannot(self.way, self.standing, ("change", False))

    def test_each_step_that_cannot_be_done(self):
        for way in ways_of_all_kinds():
            for standing in random_standings(way, 8):
                can = plain_steps(way, standing)
                for step in forms(10):
                    if step not in can:
                        self.assert_cannot(way, standing, step)

    def test_the_first_standing(self):
        for way in (AHEAD, APART):
            for step in forms(2):
                if step not in (("change", 1), ("change", 2)):
                    self.assert_cannot(way, first_standing(way), step)


class ByThePlainTelling(Behind):
    def test_standings_of_all_kinds(self):
        done = set()
        for number, way in enumerate(ways_of_all_kinds()):
            for standing in random_standings(way, 12):
                for rules in (OVER, KEY, ROW, own_rules(number)):
                    for step in steps_from(way, standing):
                        with self.subTest(way=way, rules=rules, standing=standing, step=step):
                            after = behind_step(way, rules, standing, step)
                            self.assertEqual(after, plain_behind(way, rules, standing, step))
                        done.add(step[0])
        self.assertEqual(done, set(WORDS))


if __name__ == "__main__":
    unittest.main()
