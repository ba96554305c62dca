import copy
import random
import unittest

from claimed import KEY, OVER, ROW
from given import AHEAD, APART, FIRST, LAG, MARKS, NO_INTEGERS, NO_TUPLES, NO_WISHES, PEEKS, PICTURE, PRESS, SLIPS, WIPE
from given import nested, own_rules, with_parts
from housed import NAMES, HouseCase, deeds_of, done, drawn_deed, house_with
from movedrows.checker import first_fault
from movedrows.errors import CannotStep, InvalidNames, InvalidRules, InvalidWay, NothingDone, Refused, UnknownName
from movedrows.errors import UnknownWord
from movedrows.house import House
from movedrows.weavings import walked
from plain import WISHES

BOTH = ("ann", "bob")
GREAT = 10 ** 30
FULL = (1, 0, 3, 2, 1, 1, 3, 1, 1)
NO_NAMES = NO_TUPLES + NO_INTEGERS + ("Ann", "an", "ann ", "annn", "carl", ("ann",), ["ann"], {"ann": 1}, nested(100))

WORDS = {"change", "take", "slip", "mark", "fall", "press", "wipe", "picture", "look", "end", "peek"}


class Making(unittest.TestCase):
    def assert_fails(self, error, index, way, rules, names):
        kept = copy.deepcopy((way, rules, names))
        with self.assertRaises(error) as caught:
            House(way, rules, names)
        self.assertEqual(caught.exception.index, index)
        self.assertEqual((way, rules, names), kept)

    def test_right_ones(self):
        for names in (("a",), NAMES, ("abcdefgh",), ("z", "zz", "zzz"), tuple("abcdef"), ("row", "key")):
            self.assertEqual(len(House(APART, OVER, names)), 0)
        house = House(names=("ann",), rules=OVER, way=APART)
        self.assertEqual(house, House(APART, OVER, ("ann",)))

    def test_names(self):
        for names in NO_TUPLES + ((), tuple("abcdefg"), ["ann"], "ann", {"ann": 1}, ("a",) * 7, (None,) * 7):
            self.assert_fails(InvalidNames, None, APART, OVER, names)
        for name in NO_INTEGERS + ("", "abcdefghi", "Ann", "a1", "a b", "a_b", "a-b", "\u00e4", "\u0430", "ann ", "a\n",
                                   "\u00aa", "ANN", "a" * 1000, ("a",), ["a"], b"ann"):
            if name != "text":
                self.assert_fails(InvalidNames, 0, APART, OVER, (name,))
                self.assert_fails(InvalidNames, 2, APART, OVER, ("ann", "bob", name, "cy"))
        self.assert_fails(InvalidNames, 1, APART, OVER, ("ann", "ann"))
        self.assert_fails(InvalidNames, 4, APART, OVER, ("ann", "bob", "cy", "dee", "bob", "ann"))
        # The first of several faults.
        self.assert_fails(InvalidNames, 1, APART, OVER, ("ann", "", "ann", None))
        self.assert_fails(InvalidNames, 1, APART, OVER, ("ann", "ann", "", None))

    def test_ways_and_rules(self):
        self.assert_fails(InvalidWay, None, AHEAD[:8], OVER, ("ann",))
        self.assert_fails(InvalidWay, 2, with_parts(AHEAD, {LAG: 4}), OVER, ("ann",))
        self.assert_fails(InvalidWay, 2, with_parts(AHEAD, {LAG: True}), OVER, ("ann",))
        self.assert_fails(InvalidRules, None, AHEAD, OVER[:26], ("ann",))
        self.assert_fails(InvalidRules, 5, AHEAD, OVER[:5] + (6,) + OVER[6:], ("ann",))
        for value in NO_TUPLES:
            self.assert_fails(InvalidWay, None, value, OVER, ("ann",))
            self.assert_fails(InvalidRules, None, APART, value, ("ann",))

    def test_the_order_of_the_errors(self):
        self.assert_fails(InvalidWay, None, None, None, None)
        self.assert_fails(InvalidWay, 8, AHEAD[:8] + (2,), (), ())
        self.assert_fails(InvalidRules, None, AHEAD, (), ())


class Refusals(HouseCase):
    def assert_refused(self, house, deed, names=BOTH):
        """Check that the deed cannot be done and changes nothing, by its method and by +=."""
        before = self.told(house, names)
        kept = copy.deepcopy(deed)
        with self.assertRaises(CannotStep) as caught:
            getattr(house, deed[0])(*deed[1:])
        self.assertIsNone(caught.exception.index)
        with self.assertRaises(Refused) as caught:
            house += (deed,)
        self.assertEqual((caught.exception.index, caught.exception.reason), (0, "CannotStep"))
        self.assertEqual(self.told(house, names), before)
        self.assertEqual(deed, kept)

    def assert_done(self, house, *deeds):
        for deed in deeds:
            before = len(house)
            self.assertIsNone(done(house, deed), deed)
            self.assertEqual(len(house), before + 1)
            self.assertEqual(house.deeds()[-1], deed)


class Changes(Refusals):
    def test_places(self):
        house = House(APART, OVER, BOTH)
        self.assertEqual((house.place_of("ann"), house.truth()), (0, ()))
        self.assert_refused(house, ("change", "ann", 0))
        self.assert_done(house, ("change", "bob", 2), ("change", "ann", 1))
        self.assertEqual((house.place_of("ann"), house.place_of("bob")), (1, 2))
        self.assertEqual(house.truth(), (("ann", 1, 1), ("bob", 2, 1)))
        for place in (3, -1, GREAT):
            self.assert_refused(house, ("change", "ann", place))

    def test_lag_bounds_each_row_by_itself(self):
        house = House(AHEAD, OVER, BOTH)
        self.assert_done(house, ("change", "ann", 1))
        for place in (0, 1, 2):
            self.assert_refused(house, ("change", "ann", place))
        self.assert_done(house, ("change", "bob", 1))
        self.assert_refused(house, ("change", "bob", 2))
        self.assert_done(house, ("take", 0))
        self.assert_refused(house, ("change", "bob", 2))
        self.assert_done(house, ("change", "ann", 2))
        self.assertEqual(house.lane(0), ((), (("bob", 1, 1, 1), ("ann", 1, 0, 2), ("ann", 2, 1, 2))))

    def test_lag_of_each_lane(self):
        house = House(with_parts(APART, {LAG: 2}), OVER, BOTH)
        self.assert_done(house, ("change", "ann", 1), ("change", "ann", 1))
        self.assert_refused(house, ("change", "ann", 1))
        self.assert_refused(house, ("change", "ann", 2))
        self.assert_done(house, ("change", "bob", 1), ("take", 0), ("change", "ann", 2))

    def test_stamps_are_those_of_its_own_changes(self):
        house = House(with_parts(APART, {LAG: 3}), OVER, BOTH)
        self.assert_done(house, ("change", "bob", 1), ("change", "bob", 1), ("change", "ann", 1), ("change", "bob", 2))
        self.assertEqual(house.truth(), (("ann", 1, 1), ("bob", 2, 3)))
        self.assertEqual(house.lane(0), ((), (("bob", 1, 1, 1), ("bob", 1, 1, 2), ("ann", 1, 1, 1), ("bob", 1, 0, 3))))
        self.assertEqual(house.lane(1), ((), (("bob", 2, 1, 3),)))

    def test_the_order_within_one_change(self):
        for first, entries in ((0, (("ann", 1, 0, 2), ("ann", 2, 1, 2))), (1, (("ann", 2, 1, 2), ("ann", 1, 0, 2)))):
            house = House(with_parts(AHEAD, {FIRST: first}), OVER, ("ann",))
            self.assert_done(house, ("change", "ann", 1), ("take", 0), ("change", "ann", 2))
            self.assertEqual(house.lane(0), ((), entries))


class Lanes(Refusals):
    def test_a_take_is_of_the_first_entry_whosever_it_is(self):
        house = House(AHEAD, OVER, BOTH)
        self.assert_refused(house, ("take", 0))
        self.assert_done(house, ("change", "bob", 1), ("change", "ann", 2), ("take", 0))
        self.assertEqual((house.shows("bob"), house.shows("ann")), (((1, 1),), ()))
        self.assert_done(house, ("take", 0))
        self.assertEqual(house.table(), (("ann", 2, 1), ("bob", 1, 1)))
        self.assertEqual(house.weaving_of("ann"), (("change", 2), ("take", 0)))
        self.assertEqual(house.weaving_of("bob"), (("change", 1), ("take", 0)))
        self.assert_refused(house, ("take", 0))

    def test_marks_are_asked_of_the_row_whose_entry_is_taken(self):
        house = House(with_parts(AHEAD, {MARKS: 1, LAG: 2}), OVER, BOTH)
        self.assert_done(house, ("change", "ann", 1), ("change", "bob", 1), ("change", "ann", 1), ("take", 0), ("take", 0))
        self.assertEqual(house.lane(0), ((("ann", 1, 1, 1), ("bob", 1, 1, 1)), (("ann", 1, 1, 2),)))
        self.assert_refused(house, ("take", 0))
        self.assert_done(house, ("mark", 0), ("take", 0))
        self.assertEqual(house.lane(0), ((("ann", 1, 1, 2),), ()))
        self.assertEqual(house.weaving_of("bob"), (("change", 1), ("take", 0), ("mark", 0)))

    def test_marks_and_falls_concern_the_lane_as_a_whole(self):
        house = House(with_parts(APART, {MARKS: 2}), OVER, ("ann", "bob", "cy"))
        self.assert_refused(house, ("mark", 0), ("ann", "bob", "cy"))
        self.assert_refused(house, ("fall", 0), ("ann", "bob", "cy"))
        self.assert_done(house, ("change", "ann", 1), ("change", "bob", 1), ("change", "cy", 1), ("take", 0), ("take", 0))
        self.assert_done(house, ("fall", 0))
        self.assertEqual(house.lane(0), ((), (("ann", 1, 1, 1), ("bob", 1, 1, 1), ("cy", 1, 1, 1))))
        self.assertEqual(house.weaving_of("bob"), (("change", 1), ("take", 0), ("fall", 0)))
        self.assertEqual(house.weaving_of("cy"), (("change", 1),))
        self.assert_done(house, ("take", 0), ("mark", 0))
        self.assertEqual(house.lane(0), ((), (("bob", 1, 1, 1), ("cy", 1, 1, 1))))
        self.assertEqual(house.weaving_of("ann")[-2:], (("take", 0), ("mark", 0)))
        self.assertEqual(house.weaving_of("bob"), (("change", 1), ("take", 0), ("fall", 0)))
        self.assert_refused(house, ("mark", 0), ("ann", "bob", "cy"))
        self.assert_refused(house, ("fall", 1), ("ann", "bob", "cy"))

    def test_a_slip_is_a_mark_for_the_others(self):
        house = House(with_parts(AHEAD, {MARKS: 2, SLIPS: 1}), OVER, ("ann", "bob", "cy"))
        self.assert_refused(house, ("slip", 0), ("ann", "bob", "cy"))
        self.assert_done(house, ("change", "ann", 1), ("take", 0), ("change", "bob", 1), ("change", "cy", 2), ("slip", 0))
        self.assertEqual(house.lane(0), ((), (("cy", 2, 1, 1),)))
        self.assertEqual(house.weaving_of("ann"), (("change", 1), ("take", 0), ("mark", 0)))
        self.assertEqual(house.weaving_of("bob"), (("change", 1), ("slip", 0)))
        self.assertEqual(house.weaving_of("cy"), (("change", 2),))
        self.assertEqual(house.shows("bob"), ())
        # Its own part of again goes with the slip, without a mark of its own.
        self.assert_done(house, ("take", 0), ("change", "cy", 2), ("slip", 0))
        self.assertEqual(house.weaving_of("cy"), (("change", 2), ("take", 0), ("change", 2), ("slip", 0)))
        self.assertEqual(house.weaving_of("ann"), (("change", 1), ("take", 0), ("mark", 0)))
        self.assertEqual(house.lane(0), ((), ()))

    def test_slips_and_takes_that_the_way_does_not_let(self):
        house = House(AHEAD, OVER, BOTH)
        self.assert_done(house, ("change", "ann", 1))
        self.assert_refused(house, ("slip", 0))
        self.assert_done(house, ("take", 0))
        for word in ("mark", "fall"):
            self.assert_refused(house, (word, 0))

    def test_press_asks_for_a_later_entry_of_the_same_row_and_key(self):
        house = House(with_parts(AHEAD, {LAG: 3, PRESS: 1}), OVER, BOTH)
        self.assert_done(house, ("change", "ann", 1), ("change", "bob", 1), ("change", "ann", 2), ("change", "ann", 1))
        self.assertEqual(house.lane(0)[1], (
            ("ann", 1, 1, 1), ("bob", 1, 1, 1), ("ann", 1, 0, 2), ("ann", 2, 1, 2), ("ann", 2, 0, 3), ("ann", 1, 1, 3)))
        for index in (1, 4, 5, 6, -1, GREAT):
            self.assert_refused(house, ("press", 0, index))
        self.assert_done(house, ("press", 0, 3))
        self.assertEqual(house.weaving_of("ann")[-1], ("press", 0, 2))
        self.assert_done(house, ("press", 0, 0), ("press", 0, 1))
        self.assertEqual(house.lane(0)[1], (("bob", 1, 1, 1), ("ann", 2, 0, 3), ("ann", 1, 1, 3)))
        self.assertEqual(house.weaving_of("ann")[-3:], (("press", 0, 2), ("press", 0, 0), ("press", 0, 0)))
        self.assertEqual(house.weaving_of("bob"), (("change", 1),))
        house = House(with_parts(AHEAD, {LAG: 3}), OVER, BOTH)
        self.assert_done(house, ("change", "ann", 1), ("change", "ann", 1))
        self.assert_refused(house, ("press", 0, 0))

    def test_wipe_asks_for_earlier_entries_of_the_same_row_and_key(self):
        deeds = (("change", "ann", 1), ("change", "bob", 1), ("take", 0), ("change", "bob", 0), ("change", "ann", 0))
        for wipe, let in ((0, ()), (1, ()), (2, (2,)), (3, (1, 2))):
            house = House(with_parts(AHEAD, {LAG: 2, WIPE: wipe}), OVER, BOTH)
            self.assert_done(house, *deeds)
            self.assertEqual(house.lane(0), ((), (("bob", 1, 1, 1), ("bob", 1, 0, 2), ("ann", 1, 0, 2))))
            for index in (-1, 0, 1, 2, 3):
                if index in let:
                    twin = house.twin()
                    self.assert_done(twin, ("wipe", 0, index))
                    name = ("bob", "bob", "ann")[index]
                    self.assertEqual(twin.weaving_of(name)[-1], ("wipe", 0, index if name == "bob" else 0))
                else:
                    self.assert_refused(house, ("wipe", 0, index))

    def test_the_index_is_in_the_whole_lane_with_again_first(self):
        house = House(with_parts(AHEAD, {LAG: 2, MARKS: 2, WIPE: 1, PRESS: 1}), KEY, BOTH)
        self.assert_done(house, ("change", "ann", 1), ("change", "bob", 1), ("take", 0), ("take", 0), ("mark", 0))
        self.assert_done(house, ("change", "ann", 0), ("change", "bob", 0), ("take", 0))
        self.assertEqual(house.lane(0), ((("ann", 1, 0, 2),), (("bob", 1, 0, 2),)))
        # Wipe 1 lets only what is taken, and is the first of its row and key.
        self.assert_refused(house, ("wipe", 0, 1))
        self.assert_done(house, ("change", "ann", 1))
        self.assert_done(house.twin(), ("press", 0, 0))
        self.assert_done(house, ("wipe", 0, 0))
        self.assertEqual(house.lane(0), ((), (("bob", 1, 0, 2), ("ann", 1, 1, 3))))
        self.assertEqual(house.weaving_of("ann")[-1], ("wipe", 0, 0))


class Pictures(Refusals):
    def test_a_picture_is_one_for_all_rows(self):
        house = House(with_parts(AHEAD, {PICTURE: 1, PEEKS: 1, SLIPS: 1}), OVER, BOTH)
        self.assert_refused(house, ("look", "ann", 1))
        self.assert_refused(house, ("end",))
        self.assert_done(house, ("change", "ann", 1), ("picture",))
        self.assertEqual(house.lane(0), ((), ()))
        self.assert_refused(house, ("picture",))
        self.assertEqual([house.standing_of(name)[4] for name in BOTH], [1, 1])
        self.assert_done(house, ("change", "bob", 2))
        for deed in (("take", 0), ("slip", 0), ("peek", "ann", 1), ("end",)):
            self.assert_refused(house, deed)
        self.assert_done(house, ("look", "bob", 2))
        self.assert_refused(house, ("look", "bob", 2))
        self.assertEqual([house.standing_of(name)[4] for name in BOTH], [1, 3])
        self.assert_done(house, ("look", "ann", 1), ("look", "bob", 1))
        self.assert_refused(house, ("end",))
        self.assert_refused(house, ("look", "bob", 1))
        self.assertEqual([house.standing_of(name)[4] for name in BOTH], [2, 4])
        # A row whose keys were looked at waits for the end of the picture, too.
        self.assert_refused(house, ("take", 0))
        self.assert_done(house, ("look", "ann", 2), ("end",))
        self.assertEqual([house.standing_of(name)[4] for name in BOTH], [0, 0])
        self.assertEqual(house.weaving_of("ann"), (("change", 1), ("picture",), ("look", 1), ("look", 2), ("end",)))
        self.assertEqual(
            house.weaving_of("bob"), (("picture",), ("change", 2), ("look", 2), ("look", 1), ("end",)))
        self.assertEqual(house.table(), (("ann", 1, 1), ("bob", 2, 1)))
        self.assertEqual(house.lane(0), ((), (("bob", 2, 1, 1),)))
        self.assert_done(house, ("take", 0), ("peek", "ann", 1), ("picture",))

    def test_marks_behind_the_picture(self):
        house = House(with_parts(APART, {PICTURE: 2}), OVER, BOTH)
        self.assert_done(house, ("picture",), ("change", "ann", 1), ("change", "ann", 2), ("change", "ann", 1))
        for name in BOTH:
            for key in (1, 2):
                self.assert_done(house, ("look", name, key))
        self.assert_done(house, ("change", "bob", 1))
        self.assertEqual((house.lane(0), house.lane(1)), (((), ()), ((), ())))
        self.assert_done(house, ("end",), ("change", "bob", 2))
        self.assertEqual(house.lane(0), ((), (("bob", 1, 0, 2),)))
        self.assertEqual(house.shows("ann"), ((1, 3),))

    def test_ways_without_pictures_and_peeks(self):
        house = House(AHEAD, OVER, BOTH)
        for deed in (("picture",), ("look", "ann", 1), ("end",), ("peek", "ann", 1)):
            self.assert_refused(house, deed)

    def test_looks_ahead_of_a_change_ask_nothing(self):
        house = House(with_parts(AHEAD, {PEEKS: 1, PICTURE: 1}), (1,) * 27, BOTH)
        self.assert_done(house, ("peek", "ann", 1), ("picture",), ("look", "ann", 1))
        self.assertEqual((house.asked(), house.table()), ((), ()))
        self.assertEqual(house.weaving_of("ann"), (("peek", 1), ("picture",), ("look", 1)))
        self.assertEqual(house.weaving_of("bob"), (("picture",),))

    def test_absences(self):
        house = House(with_parts(AHEAD, {PEEKS: 1}), KEY, BOTH)
        self.assert_done(house, ("change", "ann", 1), ("peek", "ann", 2), ("peek", "ann", 1))
        self.assertEqual(house.asked(), (11, 18))
        self.assertEqual(house.standing_of("ann")[3], ((1, 1), (2, 1)))
        self.assertEqual(house.shows("ann"), ((1, 1),))

    def test_press_and_wipe_within_a_picture(self):
        house = House(with_parts(AHEAD, {LAG: 2, PICTURE: 1, PRESS: 1, WIPE: 3}), OVER, ("ann",))
        self.assert_done(house, ("picture",), ("change", "ann", 1), ("change", "ann", 0))
        self.assert_done(house, ("press", 0, 0), ("wipe", 0, 0))
        self.assertEqual(house.lane(0), ((), ()))


class AnyValues(Refusals):
    def test_names(self):
        house = house_with(FULL, OVER, BOTH, (("change", "ann", 1), ("take", 0)))
        before = self.told(house, BOTH)
        for value in NO_NAMES:
            for ask in (lambda: house.change(value, 1), lambda: house.change(value, None), lambda: house.peek(value, 1),
                        lambda: house.look(value, 9), lambda: house.shows(value), lambda: house.place_of(value),
                        lambda: house.weaving_of(value), lambda: house.standing_of(value),
                        lambda: house.paper_of(value, "one"), lambda: house.paper_of(value, "no")):
                with self.assertRaises(UnknownName) as caught:
                    ask()
                self.assertIs(caught.exception.value, value)
        self.assertEqual(self.told(house, BOTH), before)

    def test_places_lanes_keys_and_indices(self):
        house = house_with(FULL, OVER, BOTH, (("change", "ann", 1), ("take", 0), ("change", "bob", 2), ("change", "ann", 2)))
        for value in NO_INTEGERS + (-1, 7, GREAT, -GREAT, "ann", nested(100)):
            for deed in (("change", "ann", value), ("take", value), ("slip", value), ("mark", value), ("fall", value),
                         ("press", value, 0), ("press", 0, value), ("wipe", value, 0), ("wipe", 0, value),
                         ("look", "ann", value), ("peek", "ann", value), ("press", value, value)):
                with self.subTest(deed=str(deed)[:60]):
                    self.assert_refused(house, deed)
        self.assert_done(house, ("picture",))
        for value in NO_INTEGERS + (0, 3, -1, GREAT):
            self.assert_refused(house, ("look", "ann", value))

    def test_lanes_that_there_are_not(self):
        for way, lanes in ((AHEAD, 1), (APART, 2)):
            house = House(way, OVER, BOTH)
            for lane in range(lanes):
                self.assertEqual(house.lane(lane), ((), ()))
            for value in NO_INTEGERS + (-1, lanes, GREAT, nested(100)):
                with self.assertRaises(CannotStep) as caught:
                    house.lane(value)
                self.assertIsNone(caught.exception.index)

    def test_words(self):
        house = house_with(APART, OVER, BOTH, (("change", "ann", 1), ("take", 0)))
        for value in NO_WISHES:
            for ask in (lambda: house.broken(value), lambda: house.paper_of("ann", value)):
                with self.assertRaises(UnknownWord) as caught:
                    ask()
                self.assertIs(caught.exception.value, value)


class Telling(Refusals):
    def test_broken_and_paper_of(self):
        house = House(APART, OVER, ("bob", "ann", "cy"))
        self.assertEqual([house.broken(word) for word in WISHES], [(), (), (), ()])
        for name in ("bob", "ann"):
            self.assert_done(house, ("change", name, 1), ("take", 0), ("change", name, 2), ("take", 1), ("take", 0))
        self.assertEqual(house.broken("one"), (("ann", 4), ("bob", 4)))
        self.assertEqual(house.broken("ends"), ())
        paper = house.paper_of("ann", "one")
        weaving = (("change", 1), ("take", 0), ("change", 2), ("take", 1))
        self.assertEqual(paper, ("broken", ("keeps", APART, OVER, "one"), weaving))
        self.assertIsNone(first_fault(paper))
        self.assertEqual(house.weaving_of("ann"), weaving + (("take", 0),))
        self.assertIsNone(house.paper_of("cy", "one"))
        self.assertIsNone(house.paper_of("ann", "ends"))

    def test_asked(self):
        house = House(APART, OVER, BOTH)
        self.assertEqual(house.asked(), ())
        self.assert_done(house, ("change", "bob", 1), ("take", 0), ("change", "bob", 2), ("take", 1), ("take", 0))
        self.assertEqual(house.asked(), (5, 9, 10))
        house.undo()
        self.assertEqual(house.asked(), (9, 10))

    def test_names_are_told_in_ascending_order(self):
        house = House(AHEAD, OVER, ("zed", "ann", "mo"))
        for name in ("zed", "mo", "ann"):
            self.assert_done(house, ("change", name, 2), ("take", 0))
        self.assertEqual(house.table(), (("ann", 2, 1), ("mo", 2, 1), ("zed", 2, 1)))
        self.assertEqual(house.truth(), (("ann", 2, 1), ("mo", 2, 1), ("zed", 2, 1)))

    def test_standing_of_has_ranks(self):
        house = House(AHEAD, ROW, BOTH)
        for place in (1, 2, 1, 0):
            self.assert_done(house, ("change", "ann", place))
            while house.lane(0)[1]:
                self.assert_done(house, ("take", 0))
        self.assertEqual(house.standing_of("ann"), walked(AHEAD, ROW, house.weaving_of("ann")))
        self.assertEqual(house.standing_of("ann")[1], 1)
        self.assertEqual(house.standing_of("bob"), (0, 0, (((), ()),), ((), ()), 0, (0, 0)))

    def test_plain_tuples(self):
        house = house_with(FULL, OVER, BOTH, deeds_of(FULL, OVER, BOTH, random.Random(1), 60))
        for told in (house.deeds(), house.table(), house.truth(), house.asked(), house.lane(0), house.broken("one"),
                     house.weaving_of("ann"), house.standing_of("ann"), house.shows("bob")):
            self.assertIs(type(told), tuple)

    def test_the_example(self):
        house = House((2, 0, 1, 0, 0, 0, 0, 0, 0), OVER, ("ann", "bob"))
        house += (("change", "ann", 1), ("take", 0), ("change", "ann", 2), ("take", 1))
        self.assertEqual(
            (house.shows("ann"), house.truth(), house.weaving_of("ann")[:2]),
            (((1, 1), (2, 2)), (("ann", 2, 2),), (("change", 1), ("take", 0))))

    def test_by_name(self):
        house = House(FULL, OVER, BOTH)
        house.change(place=1, name="ann")
        house.take(lane=0)
        house.fall(lane=0)
        house.take(lane=0)
        house.mark(lane=0)
        house.change(place=1, name="ann")
        house.change(place=2, name="ann")
        house.press(index=0, lane=0)
        house.wipe(index=0, lane=0)
        house.slip(lane=0)
        house.peek(key=2, name="ann")
        house.picture()
        house.look(key=1, name="bob")
        self.assertEqual(len(house), 13)
        self.assertEqual(house.shows(name="ann"), house.shows("ann"))
        self.assertEqual(house.place_of(name="ann"), 2)
        self.assertEqual(house.weaving_of(name="bob"), (("picture",), ("look", 1)))
        self.assertEqual(house.standing_of(name="bob")[4], 2)
        self.assertEqual(house.lane(lane=0), ((), ()))
        self.assertEqual(house.broken(word="one"), (("ann", 11),))
        self.assertIsNone(house.paper_of(word="one", name="bob"))


class Sameness(HouseCase):
    def test_len(self):
        house = House(APART, OVER, BOTH)
        self.assertEqual(len(house), 0)
        house.change("ann", 1)
        self.assertEqual(len(house), 1)
        self.assertEqual(done(house, ("change", "ann", 1)), "CannotStep")
        self.assertEqual(len(house), 1)

    def test_equal_houses(self):
        one, other = House(APART, OVER, BOTH), House(APART, OVER, BOTH)
        self.assertIs(one == other, True)
        self.assertIs(one != other, False)
        one.change("ann", 1)
        self.assertIs(one == other, False)
        self.assertIs(one != other, True)
        other.change("ann", 1)
        self.assertIs(one == other, True)
        one.take(0)
        other.change("bob", 1)
        self.assertIs(one == other, False)

    def test_the_same_deeds_in_another_order(self):
        one, other = House(APART, OVER, BOTH), House(APART, OVER, BOTH)
        for house, names in ((one, BOTH), (other, BOTH[::-1])):
            for name in names:
                house.change(name, 1)
        self.assertEqual(one.truth(), other.truth())
        self.assertIs(one == other, False)

    def test_another_way_or_rules_or_names(self):
        house = House(APART, OVER, BOTH)
        for other in (House(AHEAD, OVER, BOTH), House(APART, KEY, BOTH), House(APART, OVER, BOTH[::-1]),
                      House(APART, OVER, BOTH[:1])):
            self.assertIs(house == other, False)

    def test_other_values(self):
        house = House(APART, OVER, BOTH)
        for value in NO_TUPLES + NO_INTEGERS + ((), house.deeds(), (APART, OVER, BOTH), object(), House):
            self.assertIs(house == value, False)
            self.assertIs(value == house, False)
            self.assertIs(house != value, True)

    def test_twin(self):
        house = house_with(FULL, OVER, BOTH, deeds_of(FULL, OVER, BOTH, random.Random(2), 60))
        before = self.told(house, BOTH)
        twin = house.twin()
        self.assertIs(type(twin), House)
        self.assertIsNot(twin, house)
        self.assertEqual(twin, house)
        self.assertEqual(self.told(twin, BOTH), before)
        self.do_some(twin, 8)
        self.assertNotEqual(twin, house)
        self.assertEqual(self.told(house, BOTH), before)
        twin = house.twin()
        twin.undo()
        self.assertEqual(self.told(house, BOTH), before)
        kept = self.told(twin, BOTH)
        self.do_some(house, 9)
        house.undo()
        self.assertEqual(self.told(twin, BOTH), kept)
        empty = House(APART, OVER, BOTH).twin()
        self.assertEqual(empty, House(APART, OVER, BOTH))

    def do_some(self, house, seed):
        """Do some drawn deeds."""
        made, many = random.Random(seed), len(house)
        while len(house) < many + 10:
            done(house, drawn_deed(made, BOTH))


class Undoing(HouseCase):
    def test_nothing_done(self):
        house = House(APART, OVER, BOTH)
        with self.assertRaises(NothingDone) as caught:
            house.undo()
        self.assertEqual(vars(caught.exception), {})
        house.change("ann", 1)
        self.assertIsNone(house.undo())
        self.assertEqual(house, House(APART, OVER, BOTH))
        with self.assertRaises(NothingDone):
            house.undo()

    def test_as_if_it_had_never_been_done(self):
        made = random.Random(4)
        for way in (FULL, (2, 1, 2, 1, 1, 1, 2, 2, 1), APART):
            deeds = deeds_of(way, own_rules(1), BOTH, made, 120)
            house, told = House(way, own_rules(1), BOTH), []
            for deed in deeds:
                told.append(self.told(house, BOTH))
                done(house, deed)
            for before in told[::-1]:
                house.undo()
                self.assertEqual(self.told(house, BOTH), before)
            self.assertEqual(house, House(way, own_rules(1), BOTH))
            for deed in deeds:
                self.assertIsNone(done(house, deed))
            self.assertEqual(house, house_with(way, own_rules(1), BOTH, deeds))

    def test_deeds_of_several_at_once_are_undone_one_by_one(self):
        deeds = (("change", "ann", 1), ("take", 0), ("change", "ann", 2), ("take", 1))
        house = House(APART, OVER, BOTH)
        house += deeds
        for many in (3, 2, 1, 0):
            house.undo()
            self.assertEqual(house, house_with(APART, OVER, BOTH, deeds[:many]))
            self.assertEqual(self.told(house, BOTH), self.told(house_with(APART, OVER, BOTH, deeds[:many]), BOTH))

    def test_some_thousand_deeds_and_as_many_undone(self):
        made = random.Random(5)
        way = (2, 0, 3, 1, 1, 1, 3, 1, 1)
        deeds = deeds_of(way, KEY, NAMES, made, 17000)
        self.assertGreater(len(deeds), 3000)
        house, half = House(way, KEY, NAMES), len(deeds) // 2
        for deed in deeds[:half]:
            self.assertIsNone(done(house, deed))
        before = self.told(house, NAMES)
        for deed in deeds[half:]:
            self.assertIsNone(done(house, deed))
        self.assertEqual(house.deeds(), deeds)
        for name in NAMES:
            self.assertEqual(walked(way, KEY, house.weaving_of(name)), house.standing_of(name))
        for _ in deeds[half:]:
            house.undo()
        self.assertEqual(self.told(house, NAMES), before)
        for _ in deeds[:half]:
            house.undo()
        self.assertEqual(house, House(way, KEY, NAMES))


class SeveralDeeds(HouseCase):
    def assert_refused(self, house, deeds, index, reason):
        before, same, kept = self.told(house, BOTH), house, copy.deepcopy(deeds)
        with self.assertRaises(Refused) as caught:
            house += deeds
        self.assertEqual((caught.exception.index, caught.exception.reason), (index, reason))
        self.assertIs(house, same)
        self.assertEqual(self.told(house, BOTH), before)
        self.assertEqual(deeds, kept)

    def test_in_place(self):
        house = same = House(APART, OVER, BOTH)
        house += (("change", "ann", 1), ("take", 0))
        self.assertIs(house, same)
        self.assertEqual(same.table(), (("ann", 1, 1),))
        house += ()
        self.assertIs(house, same)
        self.assertEqual(len(house), 2)

    def test_each_kind_of_deed(self):
        made = random.Random(6)
        deeds = deeds_of(FULL, ROW, BOTH, made, 500)[:200]
        self.assertEqual({deed[0] for deed in deeds}, WORDS)
        house = House(FULL, ROW, BOTH)
        house += deeds
        self.assertEqual(house, house_with(FULL, ROW, BOTH, deeds))
        self.assertEqual(self.told(house, BOTH), self.told(house_with(FULL, ROW, BOTH, deeds), BOTH))

    def test_200_deeds_and_201(self):
        house = House(APART, OVER, BOTH)
        house += (("change", "ann", 1), ("take", 0)) * 100
        self.assertEqual(len(house), 200)
        self.assert_refused(house, (("change", "ann", 1), ("take", 0)) * 100 + (("change", "ann", 1),), -1, None)
        # Too many are told ahead of one that cannot be done.
        self.assert_refused(house, (("take", 0),) * 201, -1, None)
        self.assert_refused(house, (("change", "ann", 1), ("take", 0)) * 99 + (("take", 0),) * 2, 198, "CannotStep")

    def test_all_or_none(self):
        house = house_with(APART, OVER, BOTH, (("change", "bob", 1), ("take", 0)))
        right = (("change", "ann", 1), ("take", 0), ("change", "ann", 2), ("take", 1))
        for index in range(5):
            bad = right[:index] + (("change", "bob", 7),) + right[index:]
            self.assert_refused(house, bad, index, "CannotStep")
            bad = right[:index] + (("change", "cy", 1),) + right[index:]
            self.assert_refused(house, bad, index, "UnknownName")
            bad = right[:index] + (("look", ["ann"], 1), ("take", 9)) + right[index:]
            self.assert_refused(house, bad, index, "UnknownName")
        self.assert_refused(house, right + right[:1], 4, "CannotStep")
        self.assert_refused(house, right + (("take", 0), ("take", 0)), 5, "CannotStep")

    def test_no_tuples_of_deeds(self):
        house = house_with(APART, OVER, BOTH, (("change", "bob", 1),))
        for value in NO_TUPLES + ([("take", 0)], {0: ("take", 0)}, "take", ("take", 0), nested(100)):
            if value != ():
                self.assert_refused(house, value, -1, None)

    def test_deeds_in_another_form(self):
        house = house_with(APART, OVER, BOTH, (("change", "bob", 1),))
        for deed in NO_TUPLES + ((), ("take",), ("take", 0, 0), ("change", "bob"), ("change", 1), ("change", "bob", 1, 1),
                                 ("press", 0), ("press", 0, 0, 0), ("wipe", 0), ("picture", 0), ("end", 0), ("look", 1),
                                 ("look", "bob"), ("look", "bob", 1, 1), ("peek", 1), ("slip",), ("mark",), ("fall",),
                                 ("undo",), ("Take", 0), ("takes", 0), (None, 0), (0, 0), (("take",), 0), (["take"], 0),
                                 ["take", 0], nested(99), ("lane", 0), ("twin",), ("table",)):
            with self.subTest(deed=str(deed)[:60]):
                self.assert_refused(house, (deed,), -1, None)
                # Its form is told ahead of a deed that cannot be done, wherever it stands.
                self.assert_refused(house, (("take", 1), deed), -1, None)
                self.assert_refused(house, (("take", 0),) * 5 + (deed,), -1, None)

    def test_values_that_no_deed_can_have(self):
        house = House(APART, OVER, BOTH)
        for deed, reason in ((("take", None), "CannotStep"), (("take", True), "CannotStep"), (("press", [], {}), "CannotStep"),
                             (("change", None, 1), "UnknownName"), (("peek", {}, []), "UnknownName"),
                             (("change", "ann", False), "CannotStep"), (("change", "ann", nested(90)), "CannotStep")):
            self.assert_refused(house, (deed,), 0, reason)


if __name__ == "__main__":
    unittest.main()
