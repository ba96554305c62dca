import copy
import unittest

from checks import SearchCase
from given import AHEAD, APART, EMPTY, FEW_WAYS, NO_INTEGERS, NO_TUPLES, own_rules, random_standings, standing_of
from given import ways_of_all_kinds, with_all_let, with_other_stamps, with_parts
from movedrows.back import back_from, farthest, is_right, readers_steps, require_weights, way_back_of
from movedrows.errors import InvalidWeights
from movedrows.rules import named_rules
from movedrows.standings import first_standing
from plain import READERS_WORDS, Row, plain_behind, plain_quiet, plain_standings, plain_steps, plain_true
from plain import plain_ways_back, plain_weight

LAG, MARKS, SLIPS, PICTURE, PEEKS = 2, 3, 4, 7, 8
OVER, KEY, ROW = named_rules("over"), named_rules("key"), named_rules("row")
GREAT = 10 ** 30

# Weights of several kinds: another one for each step, all 0, 0 for some, and as great as can be.
EACH = (5, 7, 11, 13, 17, 19, 23, 29)
NONE = (0,) * 8
WEIGHTS = (EACH, NONE, (1,) * 8, (0, 1, 0, 1, 0, 1, 0, 1), (3, 0, 0, 2, 1, 0, 0, 0), (GREAT,) * 8,
           (GREAT, 1, 0, GREAT, GREAT - 1, 2, 10 ** 17, 0))


class RequireWeights(unittest.TestCase):
    def assert_invalid(self, value, index):
        kept = copy.deepcopy(value)
        with self.assertRaises(InvalidWeights) as caught:
            require_weights(value)
        self.assertEqual(caught.exception.index, index)
        self.assertEqual(value, kept)

    def test_returns_the_value_itself(self):
        for value in WEIGHTS + (tuple(range(8)), (0, GREAT) * 4):
            self.assertIs(require_weights(value), value)
            self.assertIs(require_weights(value=value), value)

    def test_one_beyond_on_either_side(self):
        for index in range(8):
            for part in (0, 1, GREAT - 1, GREAT):
                value = EACH[:index] + (part,) + EACH[index + 1:]
                self.assertIs(require_weights(value), value)
            for part in (-1, -GREAT, GREAT + 1, GREAT * GREAT):
                self.assert_invalid(EACH[:index] + (part,) + EACH[index + 1:], index)

    def test_no_integers(self):
        for index in range(8):
            for part in NO_INTEGERS:
                with self.subTest(index=index, part=part):
                    self.assert_invalid(EACH[:index] + (part,) + EACH[index + 1:], index)

    def test_another_length(self):
        for value in ((), (1,), (1,) * 7, (1,) * 9, (1,) * 16, (1,) * 10 ** 6):
            self.assert_invalid(value, None)
        # The length is told ahead of the parts.
        self.assert_invalid((None,) * 7, None)
        self.assert_invalid((-1,) * 9, None)

    def test_no_tuple(self):
        for value in NO_TUPLES + ([1] * 8, "11111111", {index: 1 for index in range(8)}, [EACH]):
            with self.subTest(value=value):
                self.assert_invalid(value, None)

    def test_the_first_of_several_faults(self):
        self.assert_invalid((1, 2, GREAT + 1, None, -1, True, "1", ()), 2)
        self.assert_invalid((True, -1, GREAT + 1, 0, 0, 0, 0, 0), 0)
        self.assert_invalid((0, 0, 0, 0, 0, 0, -1, None), 6)


class IsRight(unittest.TestCase):
    def assert_right(self, expected, standing):
        self.assertIs(is_right(standing), expected)
        self.assertIs(is_right(standing=standing), expected)

    def test_each_part_of_it(self):
        right = (standing_of(0, 2), standing_of(1, 2, held=((1, 2), (0, 1))), standing_of(2, 2, held=((2, 1), (1, 2))),
                 standing_of(0, 2, held=((0, 1), (2, 2))))
        for standing in right:
            self.assert_right(True, standing)
            again = ((((1, 1, 1),), ()), (((2, 0, 2),), ()))
            self.assert_right(True, standing[:2] + (again,) + standing[3:])
            for phase in (1, 2, 3, 4):
                self.assert_right(False, standing[:4] + (phase, (0, 0)))
            for lanes in ((((), ((1, 0, 1),)), EMPTY), (EMPTY, ((), ((2, 1, 1),)))):
                self.assert_right(False, standing[:2] + (lanes,) + standing[3:])
        for place, held in (
                (0, ((1, 2), ())), (0, ((), (1, 1))), (1, ((), ())), (1, ((1, 1), ())), (1, ((), (1, 2))),
                (1, ((1, 2), (1, 1))), (2, ((1, 2), ())), (2, ((1, 2), (1, 2))), (2, ((), (0, 2)))):
            self.assert_right(False, standing_of(place, 2, held=held))

    def test_first_standings(self):
        for way in (AHEAD, APART):
            self.assert_right(True, first_standing(way))

    def test_by_the_plain_telling(self):
        for way in ways_of_all_kinds():
            for standing in random_standings(way, 30):
                self.assert_right(plain_quiet(standing) and plain_true(standing, Row(way, standing)), standing)


class ReadersSteps(unittest.TestCase):
    def assert_steps(self, way, standing, steps):
        self.assertEqual(readers_steps(way, standing), steps)
        self.assertEqual(readers_steps(standing=standing, way=way), steps)

    def test_two_lanes(self):
        lanes = ((((1, 0, 1),), ((1, 1, 2), (1, 0, 3))), (((2, 0, 1),), ((2, 1, 2), (2, 0, 3))))
        steps = (
            ("take", 0), ("take", 1), ("mark", 0), ("mark", 1), ("picture",), ("peek", 1), ("peek", 2))
        self.assert_steps(with_all_let(2), standing_of(1, 3, lanes), steps)
        self.assert_steps(with_all_let(2, picture=0, peeks=0), standing_of(1, 3, lanes), steps[:4])

    def test_one_lane(self):
        lanes = ((((1, 0, 1),), ((1, 1, 2),)),)
        self.assert_steps(
            with_all_let(1), (1, 2, lanes, ((), ()), 0, (0, 0)),
            (("take", 0), ("mark", 0), ("picture",), ("peek", 1), ("peek", 2)))
        self.assert_steps(AHEAD, first_standing(AHEAD), ())

    def test_while_a_picture_is_being_taken(self):
        lanes = ((((1, 0, 1),), ((1, 1, 2),)), EMPTY)
        looks = {1: (("look", 1), ("look", 2)), 2: (("look", 2),), 3: (("look", 1),), 4: (("end",),)}
        for phase, steps in looks.items():
            self.assert_steps(with_all_let(2), standing_of(1, 2, lanes, phase=phase), (("mark", 0),) + steps)

    def test_by_the_plain_telling(self):
        seen = set()
        for way in ways_of_all_kinds():
            for standing in random_standings(way, 15):
                steps = tuple(step for step in plain_steps(way, standing) if step[0] in READERS_WORDS)
                self.assert_steps(way, standing, steps)
                seen.update(step[0] for step in steps)
        self.assertEqual(seen, set(READERS_WORDS))


class Back(SearchCase):
    def assert_back(self, way, rules, weights, standing, least, given=None):
        """Check the way back of a standing, handed in as given, against the least weight."""
        given = standing if given is None else given
        self.assertEqual(way_back_of(way, rules, weights, given), least)
        steps = back_from(way, rules, weights, given)
        if least is None:
            self.assertIsNone(steps)
            return
        self.assertIs(type(steps), tuple)
        met = [standing]
        for step in steps:
            self.assertIn(step[0], READERS_WORDS)
            self.assertIn(step, plain_steps(way, met[-1]))
            met.append(plain_behind(way, rules, met[-1], step))
        self.assertEqual(sum(plain_weight(weights, step) for step in steps), least)
        self.assertTrue(plain_quiet(met[-1]) and plain_true(met[-1], Row(way, met[-1])))
        self.assertEqual(len(set(met)), len(met))

    def assert_all_back(self, way, rules, weights, every=1):
        """Check the ways back of some standings, each so many of them, and the farthest of all."""
        least = plain_ways_back(way, rules, weights, plain_standings(way, rules))
        for at, standing in enumerate(sorted(least)):
            if at % every == 0:
                with self.subTest(way=way, rules=rules, weights=weights, standing=standing):
                    self.assert_back(way, rules, weights, standing, least[standing])
        found = None if None in least.values() else max(least.values())
        with self.subTest(way=way, rules=rules, weights=weights):
            self.assertEqual(farthest(way, rules, weights), found)
        return least

    def test_all_standings_of_small_ways(self):
        for way in (AHEAD, APART, with_parts(AHEAD, {SLIPS: 1}), with_parts(AHEAD, {MARKS: 1})):
            for rules in (OVER, KEY, ROW):
                for weights in WEIGHTS:
                    self.assert_all_back(way, rules, weights, every=7)
                self.assert_all_back(way, rules, EACH)

    def test_some_standings_of_ways_with_looks(self):
        for way in (with_parts(AHEAD, {PEEKS: 1}), with_parts(AHEAD, {PICTURE: 1}), with_parts(AHEAD, {PICTURE: 2}),
                    with_parts(APART, {PEEKS: 1, SLIPS: 1}), with_parts(APART, {PICTURE: 1})):
            for weights in WEIGHTS[:5]:
                for rules in (OVER, ROW):
                    self.assert_all_back(way, rules, weights, every=61)

    def test_own_rules(self):
        some = [self.assert_all_back(way, own_rules(number), EACH, every=23) for number, way in enumerate(FEW_WAYS)]
        self.assertTrue([least for least in some if None in least.values()])
        self.assertTrue([least for least in some if set(least.values()) - {None, 0}])

    def test_a_right_standing(self):
        right = (1, 1, (EMPTY,), ((1, 1), ()), 0, (0, 0))
        for weights in WEIGHTS:
            self.assert_back(AHEAD, OVER, weights, first_standing(AHEAD), 0)
            self.assert_back(AHEAD, OVER, weights, right, 0)
            self.assertEqual(back_from(AHEAD, OVER, weights, right), ())

    def test_by_hand(self):
        waits = (1, 1, (((), ((1, 1, 1),)), EMPTY), ((), ()), 0, (0, 0))
        self.assert_back(APART, KEY, EACH, waits, 5)
        self.assertEqual(back_from(APART, KEY, EACH, waits), (("take", 0),))
        other = (2, 1, (EMPTY, ((), ((2, 1, 1),))), ((), ()), 0, (0, 0))
        self.assert_back(APART, KEY, EACH, other, 7)
        both = (2, 2, (((), ((1, 0, 2),)), ((), ((2, 1, 2),))), ((1, 1), ()), 0, (0, 0))
        self.assert_back(APART, KEY, EACH, both, 12)

    def test_marks_that_have_to_be_put(self):
        # The lane takes no more until it is marked; the marks of each lane have a weight of their own.
        way = with_parts(APART, {MARKS: 1})
        one = (0, 2, ((((1, 1, 1),), ((1, 0, 2),)), EMPTY), ((1, 1), ()), 0, (0, 0))
        other = (0, 2, (EMPTY, (((2, 1, 1),), ((2, 0, 2),))), ((), (1, 1)), 0, (0, 0))
        self.assert_back(way, OVER, EACH, one, 11 + 5)
        self.assertEqual(back_from(way, OVER, EACH, one), (("mark", 0), ("take", 0)))
        self.assert_back(way, OVER, EACH, other, 13 + 7)
        self.assertEqual(back_from(way, OVER, EACH, other), (("mark", 1), ("take", 1)))

    def test_pictures_and_peeks(self):
        # The row's entry was slipped: only looks show it.
        slipped = (1, 1, (EMPTY,), ((), ()), 0, (0, 0))
        peeks, pictures = with_parts(AHEAD, {SLIPS: 1, PEEKS: 1}), with_parts(AHEAD, {SLIPS: 1, PICTURE: 2})
        self.assert_back(peeks, OVER, EACH, slipped, 29)
        self.assertEqual(back_from(peeks, OVER, EACH, slipped), (("peek", 1),))
        self.assert_back(pictures, OVER, EACH, slipped, 17 + 19 + 19 + 23)
        both = with_parts(AHEAD, {SLIPS: 1, PEEKS: 1, PICTURE: 2})
        self.assertEqual(way_back_of(both, OVER, (1, 1, 1, 1, 1, 1, 1, 5), slipped, limit=3000), 4)
        self.assertEqual(way_back_of(both, OVER, (1, 1, 1, 1, 1, 1, 1, 3), slipped, limit=3000), 3)

    def test_none_can_be_reached(self):
        way = with_parts(AHEAD, {SLIPS: 1})
        slipped = (1, 1, (EMPTY,), ((), ()), 0, (0, 0))
        for weights in WEIGHTS:
            self.assert_back(way, OVER, weights, slipped, None)
            self.assertIsNone(farthest(way, OVER, weights))

    def test_great_weights_are_summed_exactly(self):
        weights = (GREAT, GREAT - 1, GREAT, GREAT, GREAT, GREAT, GREAT, GREAT)
        both = (2, 2, (((), ((1, 0, 2),)), ((), ((2, 1, 2),))), ((1, 1), ()), 0, (0, 0))
        self.assert_back(APART, KEY, weights, both, 2 * GREAT - 1)
        self.assertEqual(farthest(APART, KEY, weights), 2 * GREAT - 1)

    def test_other_stamps_in_the_same_order(self):
        way = with_parts(APART, {LAG: 2})
        least = plain_ways_back(way, KEY, EACH, plain_standings(way, KEY))
        for standing in sorted(least)[::40]:
            for far in (lambda stamp: stamp * 3, lambda stamp: GREAT * stamp + 1):
                self.assert_back(way, KEY, EACH, standing, least[standing], with_other_stamps(standing, far))

    def test_the_examples(self):
        weights = (5, 7, 1, 1, 1, 1, 1, 1)
        self.assertEqual(farthest(APART, KEY, weights), 12)
        self.assertIsNone(farthest(with_parts(APART, {SLIPS: 1}), KEY, weights))

    def test_farthest_with_weights_of_0(self):
        self.assertEqual(farthest(APART, KEY, NONE), 0)
        self.assertEqual(farthest(APART, KEY, (0, 4, 0, 0, 0, 0, 0, 0)), 4)


class Limit(SearchCase):
    def test_just_as_many_and_one_less(self):
        slipped = (1, 1, (EMPTY,), ((), ()), 0, (0, 0))
        for way, rules, standings in (
                (AHEAD, OVER, ((1, 1, (((), ((1, 1, 1),)),), ((), ()), 0, (0, 0)),)),
                (APART, KEY, (first_standing(APART),)),
                (with_parts(AHEAD, {SLIPS: 1}), ROW, (slipped, first_standing(AHEAD)))):
            many = len(plain_standings(way, rules))
            self.assert_limit(many, farthest, way, rules, EACH)
            for standing in standings:
                self.assert_limit(many, way_back_of, way, rules, EACH, standing)
                self.assert_limit(many, back_from, way, rules, EACH, standing)

    def test_left_out_it_is_2000(self):
        # 1,984 and 2,006 standings.
        within, beyond = ((2, 0, 3, 0, 0, 0, 2, 2, 0), OVER, EACH), ((1, 1, 2, 1, 1, 1, 3, 0, 1), ROW, EACH)
        for function, more in (
                (farthest, ()), (way_back_of, (first_standing(AHEAD),)), (back_from, (first_standing(AHEAD),))):
            self.assert_exceeded(2000, function, *beyond, *more)
            self.assert_exceeded(2000, function, *beyond, *more, limit=2000)
        self.assertEqual(way_back_of(*within, first_standing(APART)), 0)
        self.assertEqual(back_from(*within, first_standing(APART), limit=1984), ())
        farthest(*within)
        self.assert_exceeded(1983, farthest, *within, limit=1983)
        self.assert_exceeded(1983, way_back_of, *within, first_standing(APART), limit=1983)
        self.assert_exceeded(1983, back_from, *within, first_standing(APART), limit=1983)

    def test_keyword_only(self):
        self.assert_keyword_only_limit(farthest, AHEAD, KEY, EACH)
        self.assert_keyword_only_limit(way_back_of, AHEAD, KEY, EACH, first_standing(AHEAD))
        self.assert_keyword_only_limit(back_from, AHEAD, KEY, EACH, first_standing(AHEAD))

    def test_by_name(self):
        waits = (1, 1, (((), ((1, 1, 1),)), EMPTY), ((), ()), 0, (0, 0))
        self.assert_by_name(farthest, way=APART, rules=ROW, weights=EACH)
        self.assert_by_name(way_back_of, way=APART, rules=ROW, weights=EACH, standing=waits)
        self.assert_by_name(back_from, way=APART, rules=ROW, weights=EACH, standing=waits)


if __name__ == "__main__":
    unittest.main()
