import copy
import unittest

from checks import SearchCase
from given import AHEAD, APART, EMPTY, FEW_WAYS, NO_WISHES, SMALL_WAYS, own_rules, random_standings, standing_of
from given import ways_of_all_kinds, with_parts
from movedrows.errors import UnknownWord
from movedrows.rules import named_rules
from movedrows.standings import first_standing
from movedrows.steps import behind_step, steps_from
from movedrows.wishes import breaking, is_broken, keeps, remembered, standings_for
from plain import WISHES, first_of, plain_broken, plain_remembered, plain_standings_for, plain_steps

LAG, MARKS, SLIPS, WIPE, PICTURE, PEEKS = 2, 3, 4, 6, 7, 8
OVER, KEY, ROW = named_rules("over"), named_rules("key"), named_rules("row")
TABLES = (OVER, KEY, ROW)


class Remembered(unittest.TestCase):
    def assert_remembered(self, word, ahead, standing, expected):
        kept = copy.deepcopy((ahead, standing))
        self.assertEqual(remembered(word, ahead, standing), expected)
        self.assertEqual(remembered(standing=standing, ahead=ahead, word=word), expected)
        self.assertEqual((ahead, standing), kept)

    def assert_memory(self, word, ahead, standing, memory):
        """Check a memory that changes no ranks but its own."""
        self.assert_remembered(word, ahead, standing, standing[:5] + (memory,))


class There(Remembered):
    """ahead is given by its place alone: the rest of it has no part in the memory."""

    def test_the_place_now_is_0(self):
        for place in (1, 2):
            for memory in ((0, 0), (0, 1), (1, 0), (0, 2)):
                ahead = standing_of(place, 1, held=((1, 2), (1, 1)), memory=memory)
                standing = standing_of(0, 2, held=((1, 2), (1, 1)), memory=memory)
                self.assert_memory("there", ahead, standing, (0, 0))

    def test_steps_while_the_place_is_0(self):
        # A step that is no change: the place was 0, and is 0.
        for memory in ((0, 0), (0, 1), (1, 0)):
            standing = standing_of(0, 1, held=((1, 1), ()), memory=memory)
            self.assert_memory("there", standing_of(0, 1, memory=memory), standing, (0, 0))

    def test_the_place_ahead_is_0(self):
        # The memory is that of the change which left the place 0, whatever it was ahead.
        for memory in ((0, 0), (0, 1), (1, 0), (1, 2)):
            for held in (((), ()), ((1, 1), ()), ((), (1, 2)), ((1, 1), (1, 2)), ((2, 3), (0, 3))):
                ahead = standing_of(0, 2, held=held, memory=memory)
                standing = standing_of(1, 3, (((), ((1, 1, 2),)), (((2, 0, 1),), ())), held, 0, memory)
                self.assert_memory("there", ahead, standing, (0, 3))

    def test_a_row_with_the_stamp_of_the_change_or_a_later_one(self):
        for key in (1, 2):
            for stamp, memory in ((1, (0, 2)), (2, (1, 0)), (3, (1, 0))):
                held = ((1, stamp), (0, 4)) if key == 1 else ((2, 4), (1, stamp))
                lanes = ((((1, 1, 1), (1, 1, 3)), ((1, 1, 2),)), EMPTY)
                ahead = standing_of(1, 4, memory=(0, 2))
                self.assert_memory("there", ahead, standing_of(1, 4, lanes, held, 0, (0, 2)), memory)

    def test_one_of_two_rows_is_enough(self):
        for held in (((1, 1), (1, 3)), ((1, 3), (1, 1)), ((1, 2), (1, 1)), ((1, 2), (1, 3))):
            lanes = ((((1, 1, 1), (1, 1, 3)), ((1, 1, 2),)), EMPTY)
            standing = standing_of(2, 3, lanes, held, 0, (0, 2))
            self.assert_memory("there", standing_of(1, 2, memory=(0, 2)), standing, (1, 0))

    def test_strikes_and_absences_are_no_rows(self):
        for held in (((0, 3), ()), ((), (2, 3)), ((2, 2), (0, 3))):
            lanes = ((((1, 1, 2), (1, 1, 3)), ((1, 1, 1),)), EMPTY)
            standing = standing_of(2, 3, lanes, held, 0, (0, 2))
            self.assert_memory("there", standing_of(1, 2, memory=(0, 2)), standing, (0, 2))

    def test_once_it_begins_with_1_it_stays(self):
        for held in (((), ()), ((1, 1), ()), ((1, 2), (1, 1))):
            lanes = ((((1, 1, 1),), ((1, 1, 2),)), EMPTY)
            standing = standing_of(2, 2, lanes, held, 0, (1, 0))
            self.assert_memory("there", standing_of(1, 2, memory=(1, 0)), standing, (1, 0))

    def test_its_second_part_stays_where_it_begins_with_1(self):
        standing = standing_of(2, 3, held=((1, 1), ()), memory=(1, 2))
        self.assert_memory("there", standing_of(2, 3, memory=(1, 2)), standing, (1, 2))

    def test_what_is_forgotten_leaves_no_gap(self):
        # The stamp 1 is that of the memory alone, and is gone with it.
        standing = standing_of(1, 3, held=((1, 2), ()), memory=(0, 1))
        expected = standing_of(1, 2, held=((1, 1), ()), memory=(1, 0))
        self.assert_remembered("there", standing_of(1, 3, memory=(0, 1)), standing, expected)
        nowhere = standing_of(0, 2, held=((1, 2), ()), memory=(0, 1))
        expected = standing_of(0, 1, held=((1, 1), ()), memory=(0, 0))
        self.assert_remembered("there", standing_of(1, 2, memory=(0, 1)), nowhere, expected)

    def test_a_row_with_the_stamp_0_of_the_memory(self):
        standing = standing_of(1, 1, held=((1, 1), ()), memory=(0, 0))
        self.assert_memory("there", standing_of(1, 1), standing, (1, 0))
        standing = standing_of(1, 1, held=((0, 1), ()), memory=(0, 0))
        self.assert_memory("there", standing_of(1, 1), standing, (0, 0))


class On(Remembered):
    def test_rows_with_greater_stamps(self):
        lanes = ((((1, 1, 1), (1, 1, 2)), ((1, 1, 3),)), (((2, 1, 4),), ()))
        for held, memory in (
                (((1, 3), ()), (0, 3)), (((), (1, 4)), (0, 4)), (((1, 3), (1, 4)), (0, 4)), (((1, 4), (1, 1)), (0, 4))):
            for ahead in (0, 1, 2):
                standing = standing_of(1, 4, lanes, held, 0, (0, 2))
                self.assert_memory("on", standing_of(ahead, 4, memory=(0, 2)), standing, memory)

    def test_rows_with_lesser_stamps_and_the_same(self):
        lanes = ((((1, 1, 1), (1, 1, 2)), ((1, 1, 3),)), EMPTY)
        for held in (((), ()), ((1, 1), ()), ((1, 1), (1, 2)), ((), (1, 2)), ((1, 2), (1, 2))):
            for place in (0, 1, 2):
                standing = standing_of(place, 3, lanes, held, 0, (0, 2))
                self.assert_memory("on", standing_of(place, 3, memory=(0, 2)), standing, (0, 2))

    def test_strikes_and_absences_are_no_rows(self):
        standing = standing_of(1, 3, (((), ((1, 1, 2),)), EMPTY), ((0, 3), (2, 3)), 0, (0, 1))
        self.assert_memory("on", standing_of(1, 3, memory=(0, 1)), standing, (0, 1))

    def test_it_begins_with_0(self):
        for held, least in (((), 2), ((1, 3), 3)):
            standing = standing_of(1, 3, (((), ((1, 1, 2),)), EMPTY), (held, (0, 1)), 0, (1, 2))
            self.assert_memory("on", standing_of(1, 3, memory=(1, 2)), standing, (0, least))

    def test_the_stamp_that_was_remembered_leaves_no_gap(self):
        standing = standing_of(1, 3, held=((1, 3), (0, 1)), memory=(0, 2))
        expected = standing_of(1, 2, held=((1, 2), (0, 1)), memory=(0, 2))
        self.assert_remembered("on", standing_of(1, 3, memory=(0, 2)), standing, expected)

    def test_it_is_ranked_among_the_others(self):
        # The stamp 2 is that of the memory alone: it stays between the others.
        standing = standing_of(1, 3, held=((1, 1), (0, 3)), memory=(0, 2))
        self.assert_memory("on", standing_of(1, 3, memory=(0, 2)), standing, (0, 2))


class OneAndEnds(Remembered):
    def test_always_the_same(self):
        for word in ("one", "ends"):
            for way in ways_of_all_kinds()[:20]:
                for standing in random_standings(way, 5):
                    bare = standing[:5] + ((0, 0),)
                    self.assert_remembered(word, bare, bare, remembered(word, standing, bare))
                    self.assertEqual(remembered(word, standing, standing)[5], (0, 0))

    def test_the_stamp_of_the_memory_leaves_no_gap(self):
        for word in ("one", "ends"):
            standing = standing_of(1, 3, held=((1, 3), (0, 1)), memory=(1, 2))
            expected = standing_of(1, 2, held=((1, 2), (0, 1)))
            self.assert_remembered(word, standing_of(0, 2, memory=(1, 2)), standing, expected)


class RememberedByThePlainTelling(Remembered):
    def test_behind_steps_of_all_kinds(self):
        for number, way in enumerate(ways_of_all_kinds()):
            for ahead in random_standings(way, 8):
                for rules in (KEY, own_rules(number)):
                    for step in steps_from(way, ahead):
                        standing = behind_step(way, rules, ahead, step)
                        for word in WISHES:
                            expected = plain_remembered(way, rules, word, ahead, step)
                            with self.subTest(word=word, ahead=ahead, step=step):
                                self.assert_remembered(word, ahead, standing, expected)


class IsBroken(unittest.TestCase):
    def assert_broken(self, expected, word, standing):
        self.assertIs(is_broken(word, standing), expected)
        self.assertIs(is_broken(standing=standing, word=word), expected)

    def test_one(self):
        for place in (0, 1, 2):
            for phase in (0, 3):
                for held in (((1, 1), (1, 2)), ((1, 2), (1, 2)), ((1, 2), (1, 1))):
                    self.assert_broken(True, "one", standing_of(place, 2, held=held, phase=phase))
                for held in (
                        ((), ()), ((1, 2), ()), ((), (1, 2)), ((0, 1), (1, 2)), ((1, 2), (2, 2)), ((2, 2), (0, 1))):
                    self.assert_broken(False, "one", standing_of(place, 2, held=held, phase=phase))

    def test_there(self):
        for phase in (0, 1):
            for held in (((), ()), ((0, 1), ()), ((2, 1), (0, 1))):
                self.assert_broken(True, "there", standing_of(1, 1, held=held, phase=phase, memory=(1, 0)))
                self.assert_broken(False, "there", standing_of(1, 1, held=held, phase=phase, memory=(0, 1)))
                self.assert_broken(False, "there", standing_of(1, 1, held=held, phase=phase, memory=(0, 0)))
            for held in (((1, 1), ()), ((), (1, 1)), ((1, 1), (1, 1)), ((0, 1), (1, 1))):
                self.assert_broken(False, "there", standing_of(1, 1, held=held, phase=phase, memory=(1, 0)))

    def test_on(self):
        for held in (((1, 2), ()), ((), (1, 2)), ((1, 2), (1, 1)), ((1, 1), (1, 2)), ((0, 3), (1, 2))):
            self.assert_broken(True, "on", standing_of(1, 3, held=held, memory=(0, 3)))
            self.assert_broken(True, "on", standing_of(1, 3, held=held, phase=2, memory=(0, 4)))
            self.assert_broken(False, "on", standing_of(1, 3, held=held, memory=(0, 2)))
            self.assert_broken(False, "on", standing_of(1, 3, held=held, memory=(0, 0)))
        for held in (((1, 3), (1, 1)), ((1, 2), (1, 3)), ((1, 3), ()), ((1, 4), (1, 2))):
            self.assert_broken(False, "on", standing_of(1, 3, held=held, memory=(0, 3)))
        for held in (((), ()), ((0, 1), ()), ((2, 1), (0, 2))):
            self.assert_broken(False, "on", standing_of(1, 3, held=held, memory=(0, 3)))

    def test_ends(self):
        wrong = (
            (0, ((1, 2), ())), (0, ((), (1, 1))), (1, ((), ())), (1, ((1, 1), ())), (1, ((), (1, 2))),
            (1, ((0, 2), ())), (1, ((1, 2), (1, 1))), (2, ((1, 2), ())), (2, ((2, 2), (1, 1))), (2, ((1, 2), (1, 2))))
        right = ((0, ((), ())), (0, ((0, 2), (2, 2))), (1, ((1, 2), ())), (1, ((1, 2), (0, 2))), (2, ((2, 2), (1, 2))))
        waits = (((), ((1, 1, 1),)), EMPTY), (EMPTY, ((), ((2, 1, 2),)))
        taken = ((((1, 1, 1),), ()), (((2, 1, 2),), ()))
        for place, held in wrong:
            self.assert_broken(True, "ends", standing_of(place, 2, held=held))
            self.assert_broken(True, "ends", standing_of(place, 2, taken, held))
            for phase in (1, 2, 3, 4):
                self.assert_broken(False, "ends", standing_of(place, 2, held=held, phase=phase))
            for lanes in waits:
                self.assert_broken(False, "ends", standing_of(place, 2, lanes, held))
        for place, held in right:
            self.assert_broken(False, "ends", standing_of(place, 2, held=held))
            self.assert_broken(False, "ends", standing_of(place, 2, taken, held))

    def test_the_memory_is_asked_by_there_and_on_alone(self):
        for memory in ((0, 0), (1, 0), (1, 1), (0, 2)):
            self.assert_broken(False, "one", standing_of(1, 1, held=((1, 1), ()), memory=memory))
            self.assert_broken(True, "one", standing_of(1, 1, held=((1, 1), (1, 1)), memory=memory))
            self.assert_broken(False, "ends", standing_of(1, 1, held=((1, 1), ()), memory=memory))
            self.assert_broken(True, "ends", standing_of(1, 1, memory=memory))

    def test_no_wish_is_broken_in_the_first_standing(self):
        for way in ways_of_all_kinds():
            for word in WISHES:
                self.assert_broken(False, word, first_standing(way))

    def test_by_the_plain_telling(self):
        for way in ways_of_all_kinds():
            for standing in random_standings(way, 40):
                for word in WISHES:
                    with self.subTest(word=word, standing=standing):
                        self.assert_broken(plain_broken(way, word, standing), word, standing)


class Words(SearchCase):
    def assert_unknown(self, value, function, *handed, **named):
        kept = copy.deepcopy(value)
        with self.assertRaises(UnknownWord) as caught:
            function(*handed, **named)
        self.assertIs(caught.exception.value, value)
        self.assertEqual(value, kept)

    def test_what_is_no_wish(self):
        standing = standing_of(1, 1, held=((1, 1), ()))
        great = (2, 1, 3, 2, 1, 1, 3, 2, 1)
        for value in NO_WISHES:
            with self.subTest(value=value):
                self.assert_unknown(value, remembered, value, standing, standing)
                self.assert_unknown(value, is_broken, value, standing)
                for function in (standings_for, keeps, breaking):
                    self.assert_unknown(value, function, APART, OVER, value)
                    self.assert_unknown(value, function, word=value, rules=OVER, way=APART)
                    # It comes ahead of the limit.
                    self.assert_unknown(value, function, great, KEY, value, limit=1)


class Kept(SearchCase):
    def assert_told(self, way, rules, word):
        """Check all standings and the shortest weaving by a plain search."""
        counts = plain_standings_for(way, rules, word)
        broken = [count for standing, count in counts.items() if plain_broken(way, word, standing)]
        with self.subTest(way=way, rules=rules, word=word):
            found = standings_for(way, rules, word)
            self.assert_ascending(found)
            self.assertEqual(found, tuple(sorted(counts)))
            weaving = breaking(way, rules, word)
            self.assertIs(keeps(way, rules, word), not broken)
            if broken:
                self.assertIs(type(weaving), tuple)
                self.assertEqual(len(weaving), min(broken))
                self.assert_breaks(way, rules, word, weaving)
            else:
                self.assertIsNone(weaving)
        return bool(broken)

    def assert_breaks(self, way, rules, word, weaving):
        """Check that the weaving can be walked and breaks the wish at its end."""
        standing = first_of(way)
        for step in weaving:
            self.assertIn(step, plain_steps(way, standing))
            standing = plain_remembered(way, rules, word, standing, step)
        self.assertTrue(plain_broken(way, word, standing))

    def test_small_ways_by_the_named_tables(self):
        seen = set()
        for way in SMALL_WAYS:
            for rules in TABLES:
                for word in WISHES:
                    seen.add((word, self.assert_told(way, rules, word)))
        self.assertEqual(len(seen), 8)

    def test_few_ways_by_own_rules(self):
        for number, way in enumerate(FEW_WAYS):
            for word in WISHES:
                self.assert_told(way, own_rules(number), word)

    def test_the_example(self):
        self.assertIs(keeps(APART, OVER, "one"), False)
        self.assertIs(keeps(APART, ROW, "one"), True)
        self.assertEqual(len(breaking(APART, OVER, "one")), 4)
        self.assertIsNone(breaking(APART, ROW, "one"))

    def test_by_hand(self):
        # With rules that lay nothing a row is never shown, so that only "ends" is broken: after a row was taken.
        nothing = (0,) * 27
        told = [keeps(AHEAD, nothing, word) for word in ("one", "there", "on", "ends")]
        self.assertEqual(told, [True, True, True, False])
        self.assertEqual(len(breaking(AHEAD, nothing, "ends")), 2)
        # One lane in which the strike is first: over empties the first key before it lays the second one.
        self.assertEqual(
            breaking(AHEAD, OVER, "there") in (
                (("change", one), ("take", 0), ("change", 3 - one), ("take", 0)) for one in (1, 2)), True)
        # After a fall the elder row is shown again, while the younger one was.
        back = breaking(with_parts(AHEAD, {MARKS: 2}), OVER, "on")
        self.assertEqual([step[0] for step in back].count("fall"), 1)

    def test_a_way_within_keeps_what_the_way_keeps(self):
        wide = with_parts(APART, {MARKS: 1, SLIPS: 0, WIPE: 2})
        for way in (APART, with_parts(APART, {MARKS: 1}), with_parts(APART, {WIPE: 1})):
            for word in WISHES:
                if keeps(wide, ROW, word):
                    self.assertIs(keeps(way, ROW, word), True)


class Limit(SearchCase):
    def test_just_as_many_and_one_less(self):
        for way, rules in ((AHEAD, OVER), (APART, KEY), (with_parts(AHEAD, {PEEKS: 1}), ROW)):
            for word in WISHES:
                many = len(plain_standings_for(way, rules, word))
                for function in (standings_for, keeps, breaking):
                    with self.subTest(way=way, word=word, function=function):
                        self.assert_limit(many, function, way, rules, word)

    def test_the_memory_counts(self):
        way = with_parts(APART, {SLIPS: 1})
        numbers = [len(standings_for(way, KEY, word)) for word in WISHES]
        self.assertEqual(numbers, [len(plain_standings_for(way, KEY, word)) for word in WISHES])
        self.assertEqual(len(set(numbers)), 3)

    def test_left_out_it_is_2000(self):
        # 2,001 standings with the memory of "on", 1,998 with that of "there".
        beyond, within = ((2, 0, 2, 0, 0, 0, 1, 1, 0), OVER, "on"), ((1, 1, 1, 1, 1, 1, 1, 2, 0), KEY, "there")
        for function in (standings_for, keeps, breaking):
            self.assert_exceeded(2000, function, *beyond)
            self.assert_exceeded(2000, function, *beyond, limit=2000)
            function(*within)
            function(*within, limit=1998)
            self.assert_exceeded(1997, function, *within, limit=1997)
        self.assertEqual(len(standings_for(*beyond, limit=2001)), 2001)

    def test_also_where_the_answer_could_be_told(self):
        great = (2, 1, 3, 2, 1, 1, 3, 2, 1)
        for word in WISHES:
            for limit in (1, 50, 2000):
                for function in (standings_for, keeps, breaking):
                    self.assert_exceeded(limit, function, great, OVER, word, limit=limit)

    def test_keyword_only(self):
        for function in (standings_for, keeps, breaking):
            self.assert_keyword_only_limit(function, AHEAD, KEY, "one")

    def test_by_name(self):
        for function in (standings_for, keeps):
            for word in WISHES:
                self.assert_by_name(function, way=APART, rules=ROW, word=word)
        self.assert_by_name(breaking, way=APART, rules=OVER, word="one")


if __name__ == "__main__":
    unittest.main()
