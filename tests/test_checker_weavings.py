import unittest

from checks import CheckedCase, less
from claimed import KEY, OVER, PEEKING, ROW, SLIPPING
from given import AHEAD, APART, LAG, MARKS, PICTURE, SLIPS, WIPE, with_parts
from movedrows.claims import decide
from movedrows.errors import LimitExceeded
from plain import first_of, plain_standings_for
from plain_checker import plain_first_fault
from plain_searches import put


class Weavings(CheckedCase):
    def test_keeps(self):
        claim = ("keeps", APART, OVER, "one")
        weaving = decide(claim)[2]
        self.assertEqual(weaving, (("change", 1), ("take", 0), ("change", 2), ("take", 1)))
        self.assert_fault(("broken", claim, weaving), None)
        for many in range(4):
            self.assert_fault(("broken", claim, weaving[:many]), ("wish",))
        self.assert_fault(("broken", claim, weaving + (("take", 0),)), ("wish",))
        self.assert_fault(("broken", claim, weaving + (("take", 1),)), ("step", 4))
        self.assert_fault(("broken", claim, weaving[1:]), ("step", 0))
        self.assert_fault(("broken", claim, weaving[:3] + weaving[:1] * 2), ("step", 3))
        # A later weaving that breaks it is as right as the shortest one.
        self.assert_fault(("broken", claim, (("change", 1), ("take", 0)) + weaving), None)
        # A step that cannot be done is told ahead of a wish that is not broken.
        self.assert_fault(("broken", claim, (("take", 1),)), ("step", 0))

    def test_it_has_no_limit(self):
        # A way with far more standings than any limit lets: its weavings can be checked all the same.
        great = (2, 1, 3, 2, 1, 1, 3, 2, 1)
        with self.assertRaises(LimitExceeded):
            decide(("keeps", great, OVER, "one"))
        weaving = (("change", 1), ("take", 0), ("change", 2), ("take", 1))
        self.assert_fault(("broken", ("keeps", great, OVER, "one"), weaving), None)
        self.assert_fault(("broken", ("soonest", great, OVER, "one", None), ("sooner", weaving)), None)
        self.assert_fault(("broken", ("alike", great, OVER, ROW), weaving), None)
        self.assert_fault(("broken", ("needless", great, OVER, 10), weaving), None)
        self.assert_fault(("shown", ("log", great, OVER, (0, 1, 3)), weaving), None)

    def test_a_lane_that_the_way_has_not(self):
        self.assert_fault(("broken", ("keeps", AHEAD, OVER, "one"), (("change", 1), ("take", 1))), ("step", 1))

    def test_memory_is_put_anew_after_each_step(self):
        for word in ("there", "on"):
            claim = ("keeps", with_parts(APART, {MARKS: 1}), ROW, word)
            told = decide(claim)
            if told[0] == "broken":
                self.assert_fault(told, None)
                self.assert_plain((told[0], claim, told[2][:-1]), "wish")

    def test_narrow(self):
        wide = with_parts(AHEAD, {SLIPS: 1, PICTURE: 2})
        claim, weaving = ("keeps", wide, KEY, "ends"), (("change", 1), ("slip", 0))
        self.assert_fault(("broken", claim, ("narrow", SLIPPING, weaving)), None)
        self.assert_fault(("broken", claim, ("narrow", wide, weaving)), None)
        self.assert_fault(("broken", claim, ("narrow", AHEAD, weaving)), ("step", 1))
        self.assert_fault(("broken", claim, ("narrow", SLIPPING, weaving[:1])), ("wish",))
        # A wider way, and ways that are neither.
        for other in (with_parts(wide, {LAG: 2}), with_parts(wide, {PICTURE: 1}), with_parts(SLIPPING, {WIPE: 1}),
                      with_parts(SLIPPING, {1: 1}), with_parts(APART, {SLIPS: 1})):
            self.assert_fault(("broken", claim, ("narrow", other, weaving)), ("within",))
            self.assert_fault(("broken", claim, ("narrow", other, (("take", 0),))), ("within",))

    def test_alike(self):
        claim = ("alike", APART, OVER, ROW)
        weaving = decide(claim)[2]
        self.assertEqual(len(weaving), 4)
        self.assert_fault(("broken", claim, weaving), None)
        for many in range(4):
            self.assert_fault(("broken", claim, weaving[:many]), ("same",))
        self.assert_fault(("broken", claim, weaving[:2] + (("take", 0),)), ("step", 2))
        self.assert_fault(("broken", claim, weaving[1:]), ("step", 0))

    def test_needless(self):
        claim = ("needless", APART, OVER, 10)
        weaving = decide(claim)[2]
        self.assert_fault(("broken", claim, weaving), None)
        self.assert_fault(("broken", claim, ()), ("asks",))
        self.assert_fault(("broken", claim, weaving[:-1]), ("asks",))
        self.assert_fault(("broken", claim, weaving[:2]), ("asks",))
        self.assert_fault(("broken", claim, weaving + (("take", 0),)), ("asks",))
        self.assert_fault(("broken", claim, weaving + (("take", 1),)), ("step", len(weaving)))
        self.assert_fault(("broken", ("needless", APART, OVER, 11), weaving), ("asks",))
        # A look ahead of the first change asks nothing, and so not the rule 0 either.
        self.assert_fault(("broken", ("needless", PEEKING, OVER, 18), (("peek", 1),)), ("asks",))
        self.assert_fault(("broken", ("needless", PEEKING, OVER, 18), (("change", 1), ("peek", 2))), None)
        self.assert_fault(("broken", ("needless", PEEKING, OVER, 9), (("change", 1), ("peek", 1))), None)

    def test_log(self):
        claim = ("log", APART, OVER, (0, 1, 3))
        weaving = decide(claim)[2]
        self.assert_fault(("shown", claim, weaving), None)
        self.assert_fault(("shown", claim, weaving[:-1]), ("log",))
        self.assert_fault(("shown", claim, ()), ("log",))
        self.assert_fault(("shown", claim, weaving + (("take", 0),)), ("log",))
        self.assert_fault(("shown", claim, weaving + (("change", 2),)), None)
        self.assert_fault(("shown", claim, weaving + (("take", 1),)), ("step", 4))
        self.assert_fault(("shown", ("log", APART, OVER, (0,)), ()), None)
        self.assert_fault(("shown", ("log", APART, OVER, (0,)), weaving[:1]), None)
        self.assert_fault(("shown", ("log", APART, OVER, (0, 1)), weaving), ("log",))


class Soonest(CheckedCase):
    claim = ("soonest", APART, OVER, "one")

    def test_shown_with_a_number(self):
        claim = self.claim + (4,)
        listed, levels, weaving = decide(claim)[2]
        self.assert_fault(("shown", claim, (listed, levels, weaving)), None)
        self.assert_fault(("shown", claim, ((), (), weaving)), ("start",))
        self.assert_plain(("shown", claim, (less(listed, 5), less(levels, 5), weaving)), "open")
        for index, level in enumerate(levels):
            for other in {level + 1, level + 2, 2000, 0, max(0, level - 1)} - {level}:
                changed = (listed, put(levels, {index: other}), weaving)
                fault = plain_first_fault(("shown", claim, changed))
                self.assert_fault(("shown", claim, changed), fault)
        first = listed.index(first_of(APART))
        self.assert_fault(("shown", claim, (listed, put(levels, {first: 1}), weaving)), ("level", first))
        self.assert_plain(("shown", claim, (listed, (0,) * len(levels), weaving)), "level")
        self.assert_fault(("shown", claim, (listed, levels, weaving[:3])), ("wish",))
        self.assert_fault(("shown", claim, (listed, levels, weaving[1:])), ("step", 0))
        longer = (("change", 1), ("take", 0)) + weaving
        self.assert_fault(("shown", claim, (listed, levels, longer)), ("length",))

    def test_the_number_of_steps_is_just_that(self):
        listed, levels, weaving = decide(self.claim + (4,))[2]
        # Levels that show four steps show three, too: but no weaving of three breaks it.
        self.assert_fault(("shown", self.claim + (3,), (listed, levels, weaving)), ("length",))
        self.assert_plain(("shown", self.claim + (5,), (listed, levels, weaving)), "level")

    def test_levels_may_be_less_than_the_steps(self):
        # Those of standings from which no step leads to a level that is more than one above.
        listed, levels, weaving = decide(self.claim + (4,))[2]
        lower = tuple(min(level, 4) for level in levels)
        self.assertNotEqual(lower, levels)
        self.assert_fault(("shown", self.claim + (4,), (listed, lower, weaving)), None)

    def test_the_order_of_the_faults(self):
        claim = self.claim + (4,)
        listed, levels, weaving = decide(claim)[2]
        wrong = put(levels, {0: 1})
        self.assert_fault(("shown", claim, (listed[1:], wrong[1:], weaving[1:])), ("start",))
        self.assert_plain(("shown", claim, (less(listed, 9), less(wrong, 9), weaving[1:])), "open")
        self.assert_fault(("shown", claim, (listed, wrong, weaving[1:])), ("level", 0))
        self.assert_fault(("shown", claim, (listed, levels, weaving[1:])), ("step", 0))
        self.assert_fault(("shown", claim, (listed, levels, weaving[:2])), ("wish",))

    def test_shown_without_a_number(self):
        claim = ("soonest", APART, ROW, "one", None)
        listed = decide(claim)[2]
        self.assert_fault(("shown", claim, listed), None)
        self.assert_fault(("shown", claim, listed[1:]), ("start",))
        self.assert_plain(("shown", claim, less(listed, 2)), "open")
        found = tuple(sorted(plain_standings_for(APART, OVER, "one")))
        self.assert_plain(("shown", self.claim + (None,), found), "wish")

    def test_kept(self):
        claim = ("soonest", APART, ROW, "one", 4)
        listed = decide(claim)[2][1]
        self.assert_fault(("broken", claim, ("kept", listed)), None)
        self.assert_fault(("broken", claim, ("kept", listed[1:])), ("start",))
        self.assert_plain(("broken", claim, ("kept", less(listed, 2))), "open")
        found = tuple(sorted(plain_standings_for(APART, OVER, "one")))
        for number in (3, 4, 5):
            self.assert_plain(("broken", self.claim + (number,), ("kept", found)), "wish")

    def test_sooner(self):
        weaving = decide(("keeps", APART, OVER, "one"))[2]
        self.assert_fault(("broken", self.claim + (None,), ("sooner", weaving)), None)
        self.assert_fault(("broken", self.claim + (5,), ("sooner", weaving)), None)
        for number in (1, 3, 4):
            self.assert_fault(("broken", self.claim + (number,), ("sooner", weaving)), ("length",))
        for number in (None, 1, 5):
            self.assert_fault(("broken", self.claim + (number,), ("sooner", weaving[:2])), ("wish",))
            self.assert_fault(("broken", self.claim + (number,), ("sooner", weaving[1:])), ("step", 0))
        longer = (("change", 1), ("take", 0)) + weaving
        self.assert_fault(("broken", self.claim + (None,), ("sooner", longer)), None)
        self.assert_fault(("broken", self.claim + (6,), ("sooner", longer)), ("length",))
        self.assert_fault(("broken", self.claim + (7,), ("sooner", longer)), None)

    def test_later(self):
        listed, levels, _ = decide(self.claim + (4,))[2]
        for number in (1, 2, 3):
            self.assert_fault(("broken", self.claim + (number,), ("later", listed, levels)), None)
        for number in (4, 5, 2000):
            self.assert_plain(("broken", self.claim + (number,), ("later", listed, levels)), "level")
        self.assert_fault(("broken", self.claim + (3,), ("later", listed[1:], levels[1:])), ("start",))
        self.assert_plain(("broken", self.claim + (3,), ("later", less(listed, 5), less(levels, 5))), "open")
        self.assert_fault(("broken", self.claim + (3,), ("later", listed, put(levels, {0: 2}))), ("level", 0))


if __name__ == "__main__":
    unittest.main()
