import unittest

from checks import CheckedCase, less, plain_walked
from claimed import EACH, KEY, NONE, SLIPPING
from given import APART, PEEKS, with_parts
from movedrows.claims import decide
from plain import first_of, plain_standings
from plain_checker import plain_first_fault
from plain_searches import put

GREAT = 10 ** 40


class Back(CheckedCase):
    def test_shown_with_a_number(self):
        claim = ("back", APART, KEY, EACH, 12)
        listed, values, weaving, others, bounds = paper = decide(claim)[2]
        self.assert_fault(("shown", claim, paper), None)
        self.assert_fault(("shown", claim, (listed[1:], values[1:]) + paper[2:]), ("start",))
        self.assert_plain(("shown", claim, (less(listed, 5), less(values, 5)) + paper[2:]), "open")
        for index, (weight, steps) in enumerate(values):
            above = (listed, put(values, {index: (13, steps)}))
            self.assert_fault(("shown", claim, above + paper[2:]), ("value", index))
        late = (listed, put(values, {0: (12, 2000)}))
        self.assert_fault(("shown", claim, late + paper[2:]), None)
        self.assert_fault(("shown", claim, (listed, values, weaving[1:], others, bounds)), ("step", 0))
        self.assert_fault(("shown", claim, (listed, values, (), others, bounds)), ("lies",))
        place = others.index(plain_walked(APART, KEY, weaving))
        lower = (listed, values, weaving, others, put(bounds, {place: 11}))
        self.assert_fault(("shown", claim, lower), ("weight",))
        higher = (listed, values, weaving, others, put(bounds, {place: 13}))
        self.assert_fault(("shown", claim, higher), ("bound", place))

    def test_the_order_of_the_faults(self):
        claim = ("back", APART, KEY, EACH, 12)
        listed, values, weaving, others, bounds = decide(claim)[2]
        bad_values, bad_bounds = put(values, {3: (13, 1)}), (GREAT,) * len(bounds)
        self.assert_fault(("shown", claim, (listed[1:], bad_values[1:], weaving[1:], (), ())), ("start",))
        self.assert_fault(("shown", claim, (listed, bad_values, weaving[1:], (), ())), ("value", 3))
        self.assert_fault(("shown", claim, (listed, values, weaving[1:], (), ())), ("step", 0))
        self.assert_fault(("shown", claim, (listed, values, weaving, (), ())), ("lies",))
        some = tuple(each for each in others if each == plain_walked(APART, KEY, weaving))
        self.assert_fault(("shown", claim, (listed, values, weaving, some, (GREAT,))), ("leads", 0, ("take", 0)))
        self.assert_plain(("shown", claim, (listed, values, weaving, others, bad_bounds)), "bound")

    def test_each_standing_of_others_but_the_end(self):
        claim = ("back", APART, KEY, EACH, 12)
        listed, values, weaving, others, bounds = decide(claim)[2]
        for index, standing in enumerate(others):
            word = "lies" if standing == plain_walked(APART, KEY, weaving) else "leads"
            self.assert_plain(("shown", claim, (listed, values, weaving, less(others, index), less(bounds, index))), word)
            self.assert_plain(("broken", claim[:4] + (9,), (
                "more", weaving, less(others, index), less(bounds, index))), word)

    def test_less(self):
        claim = ("back", APART, KEY, EACH)
        paper = decide(claim + (13,))[2]
        _, listed, values = paper
        for number in (None, 13, GREAT):
            self.assert_fault(("broken", claim + (number,), paper), None)
        self.assert_plain(("broken", claim + (12,), paper), "value")
        self.assert_plain(("broken", claim + (0,), paper), "value")
        for index, (weight, steps) in enumerate(values):
            for value in ((weight - 1, steps), (weight, steps - 1), (GREAT, steps), (weight, 2000), (GREAT, 0)):
                if min(value) >= 0 and index % 3 == 0:
                    changed = ("less", listed, put(values, {index: value}))
                    number = (None, 13)[index % 2]
                    fault = plain_first_fault(("broken", claim + (number,), changed))
                    self.assert_fault(("broken", claim + (number,), changed), fault)

    def test_steps_that_weigh_nothing(self):
        # Without the numbers of steps two standings could lead to each other for nothing, and never to a right one.
        way = with_parts(SLIPPING, {PEEKS: 1})
        nothing = (0,) * 27
        claim = ("back", way, nothing, NONE, None)
        listed = tuple(sorted(plain_standings(way, nothing)))
        for values in (((0, 0),) * len(listed), ((0, 1),) * len(listed), ((5, 7),) * len(listed)):
            self.assert_plain(("broken", claim, ("less", listed, values)), "value")
        self.assertEqual(decide(claim)[0], "shown")

    def test_more(self):
        claim = ("back", APART, KEY, EACH)
        paper = decide(claim + (11,))[2]
        _, weaving, others, bounds = paper
        for number in (0, 5, 11):
            self.assert_fault(("broken", claim + (number,), paper), None)
        for number in (12, 13, GREAT):
            self.assert_fault(("broken", claim + (number,), paper), ("weight",))
        for index, bound in enumerate(bounds):
            for other in {bound + 1, max(0, bound - 1), 0, GREAT} - {bound}:
                changed = ("more", weaving, others, put(bounds, {index: other}))
                fault = plain_first_fault(("broken", claim + (11,), changed))
                self.assert_fault(("broken", claim + (11,), changed), fault)
        self.assert_fault(("broken", claim + (11,), ("more", weaving + (("end",),), others, bounds)), ("step", len(weaving)))

    def test_a_right_one_may_be_among_the_others_of_more(self):
        claim = ("back", APART, KEY, EACH, 11)
        _, weaving, others, bounds = decide(claim)[2]
        self.assertIn(0, bounds)
        right = bounds.index(0)
        self.assert_fault(("broken", claim, ("more", weaving, others, put(bounds, {right: 1}))), ("bound", right))

    def test_bounds_without_a_way_back(self):
        # A standing from which no reader's step leads may have any bound, if it is not right.
        claim = ("back", SLIPPING, KEY, EACH)
        weaving, others = decide(claim + (None,))[2]
        self.assertEqual(len(others), 1)
        self.assert_fault(("broken", claim + (7,), ("more", weaving, others, (GREAT,))), None)
        self.assert_fault(("broken", claim + (7,), ("more", weaving, others, (7,))), ("weight",))
        self.assert_fault(("broken", claim + (GREAT,), ("more", weaving, others, (GREAT,))), ("weight",))

    def test_never(self):
        for verdict, number, tag in (("shown", None, ()), ("broken", 5, ("never",)), ("broken", 0, ("never",))):
            claim = ("back", SLIPPING, KEY, EACH, number)
            weaving, others = decide(("back", SLIPPING, KEY, EACH, None))[2]
            self.assert_fault((verdict, claim, tag + (weaving, others)), None)
            self.assert_fault((verdict, claim, tag + (weaving[1:], others)), ("step", 0))
            self.assert_fault((verdict, claim, tag + (weaving[:-1], others)), ("lies",))
            self.assert_fault((verdict, claim, tag + (weaving, ())), ("lies",))
            listed = tuple(sorted(plain_standings(SLIPPING, KEY)))
            self.assert_fault((verdict, claim, tag + (weaving, listed)), ("right", 0))
            self.assert_fault((verdict, claim, tag + ((), (first_of(SLIPPING),))), ("right", 0))
            waits = (1, 1, (((), ((1, 1, 1),)),), ((), ()), 0, (0, 0))
            self.assert_fault((verdict, claim, tag + ((("change", 1),), (waits,))), ("leads", 0, ("take", 0)))
            # What leads out is told ahead of a right one, whichever stands first.
            both = (first_of(SLIPPING), waits)
            self.assert_fault((verdict, claim, tag + ((("change", 1),), both)), ("leads", 1, ("take", 0)))
            self.assert_fault((verdict, claim, tag + (weaving, both)), ("lies",))
            more = tuple(sorted(others + both[:1]))
            self.assert_fault((verdict, claim, tag + (weaving, more)), ("right", more.index(both[0])))

    def test_others_that_weavings_do_not_lead_to(self):
        # The list of never may have standings of the right form that are never reached.
        claim = ("back", SLIPPING, KEY, EACH, None)
        weaving, others = decide(claim)[2]
        alone = (2, 1, (((), ()),), ((0, 1), (0, 1)), 0, (0, 0))
        self.assertNotIn(alone, plain_standings(SLIPPING, KEY))
        self.assert_fault(("shown", claim, (weaving, tuple(sorted(others + (alone,))))), None)


if __name__ == "__main__":
    unittest.main()
