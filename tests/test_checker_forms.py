"""The forms of point 21: whatever has not the form of a row for its claim is ("paper",)."""

import itertools
import unittest

from checks import CheckedCase, less
from claimed import EACH, KEY, OVER, PEEKING, ROW, SLIPPING
from given import AHEAD, APART, EMPTY, LAG, NO_INTEGERS, NO_STEPS, NO_TUPLES, PICTURE, STEPS, nested, with_parts
from movedrows.checker import first_fault
from movedrows.claims import decide
from plain import first_of, plain_ranked
from plain_searches import put

PAPER = ("paper",)
GREAT = 10 ** 40
OPTIONS = ((0, 1, 5), (1, 1, 2))
WEAVING = (("change", 1), ("take", 0), ("change", 2), ("take", 1))

KEEPS = ("keeps", APART, OVER, "one")
KEPT = ("keeps", APART, ROW, "one")
SOONEST = ("soonest", APART, OVER, "one", 4)
ALIKE = ("alike", APART, OVER, KEY)
NEEDLESS = ("needless", APART, OVER, 0)
BACK = ("back", APART, KEY, EACH, 12)
MEND = ("mend", APART, OVER, ("one",), OPTIONS, 5)
LOG = ("log", APART, OVER, (0, 1, 3))
NO_LOG = ("log", AHEAD, OVER, (0, 1, 3))
NONE = ("none", AHEAD, ("ends", "there"))
SOME = ("none", AHEAD, ("ends",))
CLAIMS = (KEEPS, KEPT, SOONEST, ALIKE, NEEDLESS, BACK, MEND, LOG, NO_LOG, NONE, SOME)

# Right papers of the claims that are shown with a number.
SOON, BACK_PAPER, MEND_PAPER = [decide(claim)[2] for claim in (SOONEST, BACK, MEND)]

# Values that are no paper of any claim.
NO_PAPERS = NO_TUPLES + (
    ((),), (((),),), ("wide",), ("kept",), ("less", 1, 2), ("narrow", AHEAD), nested(99), ("one",), (None,), (0,), (True,),
    ("shown", "broken"), ((), (), (), (), (), ()), ("later", (), ((),)), [("change", 1)], "change")


class Form(CheckedCase):
    def test_no_triples(self):
        for value in NO_TUPLES + ((), ("shown",), ("shown", KEEPS), ("shown", KEEPS, (), ()), list(decide(KEEPS)),
                                  {0: "shown"}, nested(100), ("shown",) * 1000, (("shown", KEEPS, ()),)):
            self.assert_fault(value, ("form",))

    def test_claims_ahead_of_papers(self):
        for claim in NO_TUPLES + ((), ("keeps",), KEEPS[:3], KEEPS + (0,), list(KEEPS), ("none", AHEAD, ()), nested(98)):
            for verdict in ("shown", "broken", "no", None, [], 1):
                for paper in ((), WEAVING, None, [], nested(97)):
                    self.assert_fault((verdict, claim, paper), ("claim",))

    def test_verdicts(self):
        for claim in CLAIMS:
            right = decide(claim)
            for verdict in NO_TUPLES + NO_INTEGERS + ("Shown", "show", "shown ", "claim", ("shown",), ["shown"], nested(99)):
                self.assert_fault((verdict,) + right[1:], PAPER)

    def test_values_that_are_no_papers(self):
        for claim in CLAIMS + (SOONEST[:4] + (None,), BACK[:4] + (None,), MEND[:5] + (None,)):
            for verdict in ("shown", "broken"):
                for paper in NO_PAPERS:
                    with self.subTest(claim=claim[0], verdict=verdict, paper=str(paper)[:60]):
                        self.assert_fault((verdict, claim, paper), PAPER)

    def test_large_values(self):
        for value in ((0,) * 10 ** 6, [0] * 10 ** 6, ((),) * 10 ** 5, tuple(range(10 ** 5)), "x" * 10 ** 6,
                      (WEAVING * 2501,), ((("end",) * 2,) * 10 ** 5,)):
            for claim in CLAIMS:
                for verdict in ("shown", "broken"):
                    self.assertEqual(first_fault((verdict, claim, value)), PAPER)
            self.assertEqual(first_fault(("shown", value, ())), ("claim",))
            self.assertEqual(first_fault(value), ("form",))


class Weavings(CheckedCase):
    def assert_form(self, weaving, formed):
        """Check whether this is a weaving in its form: as all the papers that have one see it."""
        listed, levels, _ = SOON
        for verdict, claim, paper in (
                ("shown", SOONEST, (listed, levels, weaving)), ("shown", BACK, BACK_PAPER[:2] + (weaving,) + BACK_PAPER[3:]),
                ("shown", MEND, MEND_PAPER[:2] + ((("one", weaving),),)),
                ("broken", KEEPS, weaving), ("broken", KEEPS, ("narrow", APART, weaving)),
                ("broken", SOONEST, ("sooner", weaving)), ("broken", ALIKE, weaving), ("broken", NEEDLESS, weaving),
                ("shown", LOG, weaving), ("shown", BACK[:4] + (None,), (weaving, ())),
                ("broken", BACK, ("never", weaving, ())), ("broken", BACK, ("more", weaving, (), ())),
                ("shown", MEND[:5] + (None,), (("one", weaving),)), ("broken", MEND, ("more", (("one", weaving),))),
                ("shown", NONE, ("ends", weaving)), ("shown", NONE, (9, (("ends", weaving),) * 6)),
                ("shown", NONE, ("narrow", AHEAD, ("there", weaving)))):
            self.assert_paper((verdict, claim, paper), formed)

    def test_each_step_in_its_form(self):
        for step in STEPS[::97] + STEPS[:11] + STEPS[-6:]:
            self.assert_form((step,), True)
            self.assert_form(WEAVING + (step,), True)

    def test_steps_at_their_bounds_and_beyond(self):
        for step in (
                ("change", 3), ("change", -1), ("take", 2), ("take", -1), ("slip", 2), ("slip", -1), ("mark", 2), ("mark", -1),
                ("fall", 2), ("fall", -1), ("press", -1, 0), ("wipe", 0, -1), ("look", 0),
                ("look", 3), ("peek", 0), ("peek", 3), ("press", 2, 0), ("press", 0, 1000), ("press", 0, -1),
                ("wipe", 2, 0), ("wipe", 1, 1000), ("wipe", -1, 0), ("change", GREAT), ("press", 0, GREAT)):
            self.assert_form((step,), False)
            self.assert_form(WEAVING[:2] + (step,) + WEAVING[2:], False)
        for step in (("press", 1, 999), ("wipe", 0, 999), ("take", 1), ("look", 2), ("change", 0)):
            self.assert_form((step,), True)

    def test_no_integers_in_steps(self):
        for value in NO_INTEGERS:
            for step in (("change", value), ("take", value), ("look", value), ("press", value, 0), ("wipe", 0, value)):
                self.assert_form((step,), False)

    def test_no_steps(self):
        for step in NO_STEPS:
            self.assert_form((step,), False)
            self.assert_form(WEAVING + (step,), False)

    def test_no_tuples(self):
        for value in (list(WEAVING), [], None, {"change": 1}, "change", 0, [WEAVING], tuple(map(list, WEAVING))):
            self.assert_form(value, False)

    def test_10000_steps_and_one_more(self):
        peeks = (("change", 1),) + (("peek", 1),) * 9999
        claim = ("keeps", PEEKING, ROW, "one")
        self.assert_fault(("broken", claim, peeks), ("wish",))
        self.assert_fault(("broken", claim, peeks + (("peek", 1),)), PAPER)
        self.assert_fault(("shown", ("log", PEEKING, ROW, (0, 1)), peeks), None)
        self.assert_fault(("shown", ("log", PEEKING, ROW, (0, 1)), peeks + (("peek", 1),)), PAPER)
        self.assert_fault(("broken", claim, peeks[:-1] + (("take", 1),)), ("step", 9999))

    def test_a_way_of_one_lane_has_steps_of_two(self):
        self.assert_fault(("broken", ("keeps", AHEAD, OVER, "one"), (("take", 1),)), ("step", 0))


# Standings of the ways of two lanes and of one, in the right form.
BARE = first_of(APART)
FULL = (2, 3, ((((1, 1, 1),), ((1, 0, 2),)), (((2, 0, 2),), ((2, 1, 3),))), ((0, 3), (1, 1)), 0, (0, 0))
ONE_LANE = (1, 2, ((((2, 1, 1),), ((1, 0, 2), (2, 1, 2))),), ((2, 1), ()), 0, (0, 0))


class Standings(CheckedCase):
    def assert_standing(self, way, standing, formed, memory=True, plain=True):
        """Check whether this is a standing of the way, with memory and without: lists of it alone have the form."""
        lists = (("shown", ("keeps", way, ROW, "one"), (standing,)), ("shown", (
            "keeps", way, ROW, "one"), ("wide", way, (standing,))), (
            "broken", ("soonest", way, ROW, "one", 4), ("kept", (standing,))), (
            "shown", ("soonest", way, ROW, "one", 4), ((standing,), (0,), WEAVING)), (
            "broken", ("soonest", way, ROW, "one", 4), ("later", (standing,), (0,))), (
            "broken", ("mend", way, ROW, ("one",), ((2, 1, 0),), None), ("less", (), ((standing,),))), (
            "broken", ("none", way, ("one",)), (ROW, ((standing,),))))
        for certificate in lists:
            self.assert_paper(certificate, formed and memory)
        back = ("back", way, ROW, EACH)
        lists = (("shown", ("needless", way, ROW, 0), (standing,)), ("broken", ("log", way, ROW, (0, 1)), (
            (1, standing),)), ("broken", back + (None,), ("less", (standing,), ((0, 0),))), (
            "shown", back + (None,), (WEAVING, (standing,))), ("broken", back + (5,), ("never", WEAVING, (standing,))), (
            "broken", back + (5,), ("more", WEAVING, (standing,), (0,))), (
            "shown", back + (5,), ((standing,), ((0, 0),), WEAVING, (), ())))
        for certificate in lists:
            self.assert_paper(certificate, formed and plain)

    def assert_double(self, way, double, formed):
        """Check whether this is a double standing of the way."""
        self.assert_paper(("shown", ("alike", way, OVER, KEY), (double,)), formed)

    def assert_both(self, way, standing, formed):
        """Check this as a standing and as a double one: its parts but the last one are those of both."""
        self.assert_standing(way, standing, formed)
        if isinstance(standing, tuple) and len(standing) == 6:
            self.assert_double(way, standing[:5] + (((), ()),), formed)

    def test_right_ones(self):
        self.assert_both(APART, BARE, True)
        self.assert_both(APART, FULL, True)
        self.assert_both(AHEAD, ONE_LANE, True)

    def test_other_lengths(self):
        for standing in (BARE[:5], BARE + (0,), (), (BARE,), list(BARE), None, 0, "standing", {0: BARE}):
            self.assert_both(APART, standing, False)
            self.assert_double(APART, standing, False)

    def test_places(self):
        for place in (0, 1, 2):
            self.assert_both(APART, put(BARE, {0: place}), True)
        for place in NO_INTEGERS + (-1, 3, GREAT):
            self.assert_both(APART, put(BARE, {0: place}), False)

    def test_now(self):
        self.assert_both(APART, put(BARE, {1: 1}), True)
        for now in NO_INTEGERS + (-1, 2, GREAT):
            self.assert_both(APART, put(BARE, {1: now}), False)

    def test_lanes(self):
        for lanes in ((), (EMPTY,), (EMPTY,) * 3, [EMPTY, EMPTY], (EMPTY, list(EMPTY)), (EMPTY, ()), (EMPTY, ((),)),
                      (EMPTY, ((), (), ())), (EMPTY, None), (EMPTY, ((), [])), (EMPTY, ((), None)), None, 0, ((), ())):
            self.assert_both(APART, put(BARE, {2: lanes}), False)
        self.assert_both(AHEAD, put(first_of(AHEAD), {2: (EMPTY, EMPTY)}), False)
        self.assert_both(AHEAD, first_of(AHEAD), True)

    def test_entries(self):
        for entry, formed in (
                ((1, 0, 1), True), ((1, 1, 1), True), ((1, 2, 1), False), ((1, -1, 1), False), ((0, 1, 1), False),
                ((3, 1, 1), False), ((2, 1, 1), False), ((1, 1, 0), False), ((1, 1, -1), False), ((1, 1, 2), False),
                ((1, True, 1), False), ((True, 1, 1), False), ((1, 1, True), False), ((1, 1), False),
                ((1, 1, 1, 1), False), ([1, 1, 1], False), (None, False), ((1, 1, None), False), ((None, 1, 1), False),
                ((1, "1", 1), False), ((), False), (((1, 1, 1),), False)):
            for part in (0, 1):
                lane = put(EMPTY, {part: (entry,)})
                self.assert_both(APART, put(BARE, {2: (lane, EMPTY)}), formed)

    def test_keys(self):
        for key in NO_INTEGERS + (0, 1, 2, 3, -1, GREAT):
            formed = type(key) is int and key in (1, 2)
            self.assert_both(AHEAD, put(first_of(AHEAD), {2: (((), ((key, 1, 1),)),)}), formed)

    def test_keys_go_into_their_lanes(self):
        for key in (1, 2):
            self.assert_both(APART, put(BARE, {2: (((), ((key, 1, 1),)), EMPTY)}), key == 1)
            self.assert_both(APART, put(BARE, {2: (EMPTY, (((key, 0, 1),), ()))}), key == 2)
            self.assert_both(AHEAD, put(first_of(AHEAD), {2: (((), ((key, 1, 1),)),)}), True)

    def test_12_entries_and_one_more(self):
        for many, formed in ((1, True), (11, True), (12, True), (13, False), (1000, False)):
            entries = tuple((1, stamp % 2, stamp) for stamp in range(1, many + 1))
            for lane in ((entries, ()), ((), entries)):
                self.assert_both(APART, put(BARE, {2: (lane, EMPTY)}), formed)
        twelve = tuple((1, 1, stamp) for stamp in range(1, 13))
        self.assert_both(APART, put(BARE, {2: ((twelve, twelve), EMPTY)}), True)

    def test_holdings(self):
        for slot, formed in (
                ((), True), ((0, 1), True), ((1, 1), True), ((2, 1), True), ((3, 1), False), ((-1, 1), False),
                ((1, 0), False), ((1, -1), False), ((1, 2), False), ((1,), False), ((1, 1, 1), False), ([1, 1], False),
                ([], False), (None, False), ((True, 1), False), ((1, True), False), ((1, None), False), (0, False),
                (((),), False), ("", False)):
            for key in (0, 1):
                standing = put(BARE, {3: put(((), ()), {key: slot})})
                self.assert_both(APART, standing, formed)
                self.assert_double(APART, put(BARE, {5: put(((), ()), {key: slot})}), formed)
        for held in ((), ((),), ((), (), ()), [(), ()], None, 0):
            self.assert_both(APART, put(BARE, {3: held}), False)
            self.assert_double(APART, put(BARE, {5: held}), False)

    def test_phases(self):
        for picture in (1, 2):
            way = with_parts(APART, {PICTURE: picture})
            for phase in (0, 1, 2, 3, 4):
                self.assert_both(way, put(BARE, {4: phase}), True)
            for phase in NO_INTEGERS + (-1, 5, GREAT):
                self.assert_both(way, put(BARE, {4: phase}), False)
        for phase in NO_INTEGERS + (1, 2, 3, 4, 5, -1):
            self.assert_both(APART, put(BARE, {4: phase}), False)

    def test_memories(self):
        now = put(BARE, {1: 1})
        for memory, formed in (((0, 1), True), ((1, 0), True), ((1, 1), True), ((0, 2), True), ((1, 2), True)):
            self.assert_standing(APART, put(now, {5: memory}), formed, plain=False)
        self.assert_standing(APART, put(now, {5: (0, 0)}), True)
        self.assert_standing(APART, put(BARE, {5: (0, 1)}), True, plain=False)
        for memory in ((2, 0), (-1, 0), (0, -1), (0, 3), (0,), (0, 0, 0), [0, 0], None, 0, (True, 0), (False, 0), (0, False),
                       (None, 0), (0, None), (0, ()), ((), ())):
            self.assert_standing(APART, put(now, {5: memory}), False)
        # Double standings have no memory.
        for memory in ((0, 0), (0, 1), (1, 0)):
            self.assert_double(APART, put(now, {5: memory}), False)

    def test_stamps_are_ranks(self):
        for now, first, second, held, memory in itertools.product((0, 1, 2, 3), (1, 2), (1, 3), (1, 2), (0, 3)):
            lanes = ((((1, 1, first),), ()), ((), ((2, 0, second),)))
            standing = (1, now, lanes, ((1, held), ()), 0, (0, memory))
            formed = plain_ranked(standing) == standing
            self.assert_standing(APART, standing, formed, plain=memory == 0)

    def test_ranks_of_double_standings_are_over_both(self):
        double = (1, 1, (EMPTY, EMPTY), ((1, 2), ()), 0, ((), (0, 3)))
        self.assert_double(APART, double, True)
        self.assert_double(APART, put(double, {5: ((), (0, 4))}), False)
        self.assert_double(APART, put(double, {3: ((), ())}), False)
        self.assert_double(APART, put(double, {3: ((1, 3), ()), 5: ((1, 2), ())}), True)

    def test_standings_to_which_no_weaving_leads(self):
        for standing in ((1, 0, (EMPTY, EMPTY), ((), ()), 0, (0, 0)), (0, 1, (EMPTY, EMPTY), ((1, 2), (2, 2)), 0, (0, 0)),
                         (2, 1, ((((1, 0, 2),), ()), EMPTY), ((), ()), 0, (0, 0))):
            self.assert_both(APART, standing, True)

    def test_traces(self):
        claim = ("log", APART, OVER, (0, 1, 3))
        for many in (1, 2, 3):
            self.assert_paper(("broken", claim, ((many, BARE),)), True)
        for many in NO_INTEGERS + (0, -1, 4, GREAT):
            self.assert_paper(("broken", claim, ((many, BARE),)), False)
        for trace in (BARE, (1,), (1, BARE, 0), [1, BARE], (1, None), (1, list(BARE)), (BARE, 1), None, (1, (1, BARE))):
            self.assert_paper(("broken", claim, (trace,)), False)


class Lists(CheckedCase):
    def test_strictly_ascending(self):
        for verdict, claim in (("shown", KEPT), ("shown", ("needless", APART, OVER, 0)), ("shown", ALIKE), (
                "broken", NO_LOG)):
            told = decide(claim)
            self.assertEqual(told[0], verdict)
            listed = told[2]
            self.assert_paper((verdict, claim, listed[::-1]), False)
            self.assert_paper((verdict, claim, listed + listed[-1:]), False)
            self.assert_paper((verdict, claim, listed[:1] + listed), False)
            self.assert_paper((verdict, claim, listed[1:2] + listed[:1] + listed[2:]), False)
            self.assert_paper((verdict, claim, list(listed)), False)
            self.assert_paper((verdict, claim, less(listed, 1)), True)
            self.assert_paper((verdict, claim, listed[:5] + (None,) + listed[5:]), False)

    def test_2000_standings_and_one_more(self):
        entries = tuple((1, 1, stamp) for stamp in range(1, 12))
        slots = ((),) + tuple((kind, stamp) for kind in (0, 1, 2) for stamp in range(1, 12))
        found = [(0, 0, ((entries, ()), EMPTY), (one, two), 0, (begun, 0)) for one in slots for two in slots
                 for begun in (0, 1)]
        many = tuple(sorted(found))[:1999] + ((2, 0, (EMPTY, EMPTY), ((), ()), 0, (0, 0)),)
        self.assertEqual(len(many), 2000)
        more = many + ((2, 1, (EMPTY, EMPTY), ((), ()), 0, (0, 0)),)
        for verdict, claim, tag in (("shown", KEPT, ()), ("broken", SOONEST, ("kept",))):
            for listed, formed in ((many, True), (more, False)):
                paper = tag + (listed,) if tag else listed
                self.assert_paper((verdict, claim, paper), formed)

    def test_levels(self):
        listed, levels, weaving = decide(SOONEST)[2]
        for level in (0, 1, 1999, 2000):
            self.assert_paper(("shown", SOONEST, (listed, put(levels, {4: level}), weaving)), True)
            self.assert_paper(("broken", SOONEST, ("later", listed, put(levels, {4: level}))), True)
        for level in NO_INTEGERS + (-1, 2001, GREAT):
            self.assert_paper(("shown", SOONEST, (listed, put(levels, {4: level}), weaving)), False)
            self.assert_paper(("broken", SOONEST, ("later", listed, put(levels, {4: level}))), False)
        for wrong in (levels[:-1], levels + (0,), (), list(levels), None, 0):
            self.assert_paper(("shown", SOONEST, (listed, wrong, weaving)), False)
            self.assert_paper(("broken", SOONEST, ("later", listed, wrong)), False)

    def test_values(self):
        listed, values = decide(BACK)[2][:2]
        more = decide(BACK)[2][2:]
        for value in ((0, 0), (GREAT, 2000), (0, 2000), (GREAT, 0)):
            self.assert_paper(("shown", BACK, (listed, put(values, {2: value})) + more), True)
            self.assert_paper(("broken", BACK, ("less", listed, put(values, {2: value}))), True)
        for value in NO_INTEGERS + ((), (0,), (0, 0, 0), [0, 0], (-1, 0), (0, -1), (GREAT + 1, 0), (0, 2001), (True, 0),
                                    (0, True), (None, 0), (0, None), ((), ()), 5):
            self.assert_paper(("shown", BACK, (listed, put(values, {2: value})) + more), False)
            self.assert_paper(("broken", BACK, ("less", listed, put(values, {2: value}))), False)
        for wrong in (values[:-1], values + ((0, 0),), (), list(values), None):
            self.assert_paper(("shown", BACK, (listed, wrong) + more), False)
            self.assert_paper(("broken", BACK, ("less", listed, wrong)), False)

    def test_bounds(self):
        first = decide(BACK)[2][:2]
        weaving, others, bounds = decide(BACK)[2][2:]
        for bound in (0, 1, 2001, GREAT):
            changed = (weaving, others, put(bounds, {0: bound}))
            self.assert_paper(("shown", BACK, first + changed), True)
            self.assert_paper(("broken", BACK, ("more",) + changed), True)
        for bound in NO_INTEGERS + (-1, GREAT + 1):
            changed = (weaving, others, put(bounds, {0: bound}))
            self.assert_paper(("shown", BACK, first + changed), False)
            self.assert_paper(("broken", BACK, ("more",) + changed), False)
        for wrong in (bounds[:-1], bounds + (0,), (), list(bounds), None):
            self.assert_paper(("shown", BACK, first + (weaving, others, wrong)), False)
            self.assert_paper(("broken", BACK, ("more", weaving, others, wrong)), False)

    def test_the_standings_are_of_the_way_of_the_list(self):
        wide = with_parts(AHEAD, {LAG: 2, PICTURE: 1})
        pictured = put(first_of(AHEAD), {4: 1})
        claim = ("keeps", AHEAD, ROW, "one")
        self.assert_paper(("shown", claim, (pictured,)), False)
        self.assert_paper(("shown", claim, ("wide", wide, (pictured,))), True)
        self.assert_paper(("shown", claim, ("wide", AHEAD, (pictured,))), False)
        # Another choice has another way: here one lane in the place of two.
        mend = MEND[:5] + (None,)
        for choice, standing, formed in (((), BARE, True), ((0,), BARE, False), ((0,), first_of(AHEAD), True), (
                (), first_of(AHEAD), False), ((0, 1), first_of(AHEAD), True)):
            self.assert_paper(("broken", mend, ("less", choice, ((standing,),))), formed)

    def test_ways_beside(self):
        for other in NO_TUPLES + ((), AHEAD[:8], put(AHEAD, {2: 4}), put(AHEAD, {2: True}), list(AHEAD), OVER, None):
            self.assert_fault(("shown", KEPT, ("wide", other, ())), PAPER)
            self.assert_fault(("broken", KEEPS, ("narrow", other, WEAVING)), PAPER)
            self.assert_fault(("shown", NONE, ("narrow", other, ("ends", ()))), PAPER)
        for paper in (("wide", APART), ("wide", APART, (), ()), ("Wide", APART, ()), ("narrow", APART, ()), ["wide", APART, ()],
                      ("wide", (), APART)):
            self.assert_fault(("shown", KEPT, paper), PAPER)
        for paper in (("narrow", APART), ("narrow", APART, (), ()), ("Narrow", APART, ()), ("wide", APART, ()), (
                "narrow", (), APART)):
            self.assert_fault(("broken", KEEPS, paper), PAPER)


class Rows(CheckedCase):
    def test_a_row_is_that_of_its_verdict_and_number(self):
        listed, levels, weaving = decide(SOONEST)[2]
        without = SOONEST[:4] + (None,)
        self.assert_fault(("shown", SOONEST, listed), PAPER)
        self.assert_fault(("shown", without, (listed, levels, weaving)), PAPER)
        self.assert_fault(("broken", without, ("kept", listed)), PAPER)
        self.assert_fault(("broken", without, ("later", listed, levels)), PAPER)
        self.assert_fault(("broken", SOONEST, listed), PAPER)
        self.assert_fault(("broken", SOONEST, weaving), PAPER)
        self.assert_fault(("shown", SOONEST, ("kept", listed)), PAPER)
        self.assert_fault(("shown", without, ("kept", listed)), PAPER)
        self.assert_fault(("shown", without, ("wide", APART, listed)), PAPER)
        self.assert_fault(("broken", SOONEST, ("sooner", weaving, ())), PAPER)
        self.assert_fault(("broken", SOONEST, ("kept", listed, ())), PAPER)
        self.assert_fault(("broken", SOONEST, ("later", listed)), PAPER)
        self.assert_fault(("broken", SOONEST, ("narrow", APART, weaving)), PAPER)

    def test_back(self):
        shown = decide(BACK)[2]
        listed, values, weaving, others, bounds = shown
        without = BACK[:4] + (None,)
        for paper in ((listed, values), (weaving, others), shown[:4], shown + ((),), ("less",) + shown[:2], list(shown),
                      (weaving, others, bounds), (others, values, weaving, listed, bounds)):
            self.assert_fault(("shown", BACK, paper), PAPER)
        for paper in (shown, ("never", weaving, others), (weaving,), (weaving, others, bounds), (others, weaving)):
            self.assert_fault(("shown", without, paper), PAPER)
        for paper in (("more", weaving, others, bounds), ("never", weaving, others), (weaving, others), shown,
                      ("less", listed), ("less", listed, values, ()), ("Less", listed, values)):
            self.assert_fault(("broken", without, paper), PAPER)
        for paper in (("more", weaving, others), ("never", weaving, others, bounds), ("never", others, weaving), shown):
            self.assert_fault(("broken", BACK, paper), PAPER)

    def test_mend(self):
        choice, lists, breaks = decide(MEND)[2]
        without = MEND[:5] + (None,)
        for paper in (breaks, (choice, lists), (choice, lists, breaks, ()), ("less", choice, lists), ("more", breaks),
                      (lists, choice, breaks)):
            self.assert_fault(("shown", MEND, paper), PAPER)
        for paper in ((choice, lists, breaks), ("more", breaks), (breaks,), list(breaks)):
            self.assert_fault(("shown", without, paper), PAPER)
        for paper in (("more", breaks), breaks, (choice, lists, breaks), ("less", choice), ("less", choice, lists, breaks)):
            self.assert_fault(("broken", without, paper), PAPER)
        for paper in (("more",), ("more", breaks, ()), ("most", breaks), ("less", lists, choice)):
            self.assert_fault(("broken", MEND, paper), PAPER)

    def test_choices(self):
        options = ((0, 1, 5), (1, 1, 2), (0, 2, 1))
        claim = ("mend", APART, OVER, ("one",), options, None)
        for choice in ((), (0,), (1,), (2,), (0, 1), (1, 2)):
            lists = ((first_of(AHEAD if 0 in choice else APART),),)
            self.assert_paper(("broken", claim, ("less", choice, lists)), True)
        for choice in ((0, 2), (0, 1, 2), (1, 0), (0, 0), (3,), (-1,), (True,), (False,), (False, 1), (None,), [0], [], None, 0,
                       ("0",), ((0,),), (0, 1, 2, 3), tuple(range(1000))):
            for first in (AHEAD, APART):
                self.assert_paper(("broken", claim, ("less", choice, ((first_of(first),),))), False)
                self.assert_paper(("shown", claim[:5] + (5,), (choice, ((first_of(first),),), ())), False)

    def test_lists_are_as_many_as_wishes(self):
        for claim, tag in ((MEND[:5] + (None,), ("less", ())), (("none", APART, ("one",)), (ROW,))):
            for lists, formed in ((((),), True), ((), False), (((), ()), False), ([()], False), (([],), False), (None, False)):
                self.assert_paper(("broken", claim, tag + (lists,)), formed)
        two = ("none", APART, ("on", "one"))
        for many in range(4):
            self.assert_paper(("broken", two, (ROW, ((),) * many)), many == 2)

    def test_breaks(self):
        claim = MEND[:5] + (None,)
        for one in (("one", ()), ("one", WEAVING), ("one", (("press", 1, 999),))):
            for breaks in ((one,), (one,) * 4, (one,) * 1000):
                self.assert_paper(("shown", claim, breaks), True)
                self.assert_paper(("broken", MEND, ("more", breaks)), True)
        for one in (("on", ()), ("ends", ()), ("no", ()), (None, ()), ("one",), ("one", (), ()), ["one", ()], ("one", []),
                    ("one", None), ((), "one"), (["one"], ()), "one", None, ("one", ("change", 1))):
            self.assert_paper(("shown", claim, (one,)), False)
            self.assert_paper(("broken", MEND, ("more", (("one", ()), one))), False)
            self.assert_paper(("shown", MEND, decide(MEND)[2][:2] + ((one,),)), False)

    def test_rules_beside(self):
        for rules in NO_TUPLES + ((), OVER[:26], OVER + (0,), put(OVER, {26: 6}), put(OVER, {0: True}), list(OVER), AHEAD,
                                  (None,) * 27):
            self.assert_fault(("broken", SOME, (rules, ((),))), PAPER)
        for paper in ((OVER,), (OVER, ((),), ()), [OVER, ((),)], (((),), OVER)):
            self.assert_fault(("broken", SOME, paper), PAPER)


def chain_of(nodes, leaf):
    """Return a tree of so many nodes one below the other, and of leaves."""
    tree = leaf
    for index in range(nodes):
        tree = ((nodes - 1 - index) % 27, (leaf,) * 5 + (tree,))
    return tree


class Trees(CheckedCase):
    leaf = ("ends", ())

    def assert_tree(self, tree, formed):
        self.assert_paper(("shown", NONE, tree), formed)
        self.assert_paper(("shown", NONE, ("narrow", AHEAD, tree)), formed)

    def test_leaves(self):
        self.assert_tree(("ends", ()), True)
        self.assert_tree(("there", WEAVING), True)
        for leaf in (("one", ()), ("on", ()), ("no", ()), ("ends",), ("ends", (), ()), ["ends", ()], ("ends", []), ((), "ends"),
                     ("ends", None), (None, ()), (["ends"], ()), ("ends", (("change", 3),)), (("ends", ()),)):
            self.assert_tree(leaf, False)
            self.assert_tree((9, (self.leaf,) * 5 + (leaf,)), False)
            self.assert_tree((9, (leaf,) + (self.leaf,) * 5), False)

    def test_nodes(self):
        six = (self.leaf,) * 6
        for index in range(27):
            self.assert_tree((index, six), True)
        for index in NO_INTEGERS + (-1, 27, GREAT):
            self.assert_tree((index, six), False)
        for trees in ((), six[:5], six + six[:1], list(six), None, (six,) * 6, self.leaf, (self.leaf,)):
            self.assert_tree((9, trees), False)
        for node in ((9,), (9, six, ()), [9, six], (six, 9)):
            self.assert_tree(node, False)
            self.assert_tree((8, (node,) + six[:5]), False)

    def test_27_nodes_deep_and_one_more(self):
        for nodes, formed in ((1, True), (26, True), (27, True), (28, False), (29, False), (95, False)):
            self.assert_tree(chain_of(nodes, self.leaf), formed)

    def test_an_index_that_comes_again_is_no_fault_of_the_form(self):
        six = (self.leaf,) * 6
        leaf = ("ends", (("change", 1), ("slip", 0)))
        claim = ("none", SLIPPING, ("ends",))
        self.assert_fault(("shown", claim, (9, ((9, six),) * 6)), ("index", (0,)))
        self.assert_fault(("shown", claim, (9, (leaf,) * 5 + ((9, (leaf,) * 6),))), ("index", (5,)))
        self.assert_fault(("shown", claim, (9, (leaf,) * 5 + ((8, (leaf,) * 6),))), None)

    def test_2000_leaves_and_more(self):
        # Each node has five leaves more: 399 nodes have 1,996, 400 have 2,001.
        for nodes, formed in ((1, True), (399, True), (400, False), (401, False), (2000, False)):
            self.assert_tree(wide_tree(nodes, self.leaf), formed)

    def test_a_tree_that_shares_its_branches(self):
        # As many leaves as no list could hold: it is seen at once that they are too many.
        tree = self.leaf
        for index in range(27):
            tree = (index, (tree,) * 6)
            self.assert_tree(tree, index < 4)


def wide_tree(nodes, leaf):
    """Return a tree with so many nodes, filled level by level."""
    todo = [leaf] * (5 * nodes + 1)
    for _ in range(nodes):
        todo = todo[6:] + [(len(todo) % 27, tuple(todo[:6]))]
    return todo[0]


if __name__ == "__main__":
    unittest.main()
