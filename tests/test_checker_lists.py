import unittest

from checks import CheckedCase, less
from claimed import INDICES, KEY, LOGS, OVER, PAIRS, ROW, ROW_FIRST, SETTINGS
from given import AHEAD, APART, LAG, MARKS, PICTURE, SLIPS, WIPE, with_parts
from movedrows.claims import decide
from plain import first_of, plain_doubles, plain_parted, plain_remembered, plain_standings, plain_standings_for
from plain import plain_steps
from plain_searches import plain_traces


class Lists(CheckedCase):
    def test_keeps(self):
        claim = ("keeps", APART, ROW, "one")
        listed = decide(claim)[2]
        self.assert_fault(("shown", claim, listed), None)
        self.assert_fault(("shown", claim, ()), ("start",))
        self.assertEqual(listed[0], first_of(APART))
        self.assert_fault(("shown", claim, listed[1:]), ("start",))
        for gone in range(1, len(listed)):
            fault = self.assert_plain(("shown", claim, less(listed, gone)), "open")
            self.assertEqual(len(fault), 3)
        self.assert_fault(("shown", claim, listed[:1]), ("open", 0, ("change", 1)))
        self.assert_fault(("shown", claim, less(listed, 0, 5, 7)), ("start",))

    def test_more_than_the_standings_to_which_weavings_lead(self):
        # Closed together, and broken nowhere: a list may have more than it needs.
        claim = ("keeps", AHEAD, ROW, "one")
        listed = decide(claim)[2]
        other = (0, 1, (((), ()),), ((0, 1), (0, 1)), 0, (0, 0))
        self.assertNotIn(other, listed)
        more = self.closed_with(AHEAD, ROW, "one", listed, other)
        self.assert_fault(("shown", claim, more), None)
        self.assert_plain(("shown", claim, tuple(sorted(listed + (other,)))), "open")
        # Two rows held: the wish is broken in it, but only weavings make a wish broken.
        both = (1, 2, (((), ()),), ((1, 2), (1, 1)), 0, (0, 0))
        more = self.closed_with(AHEAD, ROW, "one", listed, both)
        self.assert_fault(("shown", claim, more), ("wish", more.index(min(
            standing for standing in more if standing[3][0][:1] == standing[3][1][:1] == (1,)))))

    def closed_with(self, way, rules, word, listed, other):
        """Return the list with another standing and all to which steps lead from it."""
        found = set(listed)
        todo = [other]
        while todo:
            standing = todo.pop()
            if standing not in found:
                found.add(standing)
                todo += [after for _, after in self.afters(way, rules, word, standing)]
        return tuple(sorted(found))

    def afters(self, way, rules, word, standing):
        """Return a list of (step, standing after it with the memory of the wish)."""
        return [(step, plain_remembered(way, rules, word, standing, step)) for step in plain_steps(way, standing)]

    def test_a_broken_wish(self):
        for way, rules, word in SETTINGS:
            found = tuple(sorted(plain_standings_for(way, rules, word)))
            claim = ("keeps", way, rules, word)
            if decide(claim)[0] == "broken":
                fault = self.assert_plain(("shown", claim, found), "wish")
                self.assert_fault(("shown", claim[:1] + claim[1:], found), fault)
                # What is open is told ahead of what is broken, and the start ahead of both.
                self.assert_fault(("shown", claim, found[1:]), ("start",))
                self.assert_plain(("shown", claim, found[:-1]), "open")

    def test_a_list_of_another_wish(self):
        # Memories of "there" are not those of "on"; what has the same standings serves for both.
        there, ends = decide(("keeps", ROW_FIRST, ROW, "there")), decide(("keeps", AHEAD, KEY, "ends"))
        self.assert_fault(there, None)
        self.assert_plain(("shown", ("keeps", ROW_FIRST, ROW, "on"), there[2]), "open")
        self.assert_fault(("shown", ("keeps", AHEAD, KEY, "one"), ends[2]), None)

    def test_wide(self):
        wide = with_parts(AHEAD, {LAG: 2, WIPE: 1})
        listed = decide(("keeps", wide, ROW, "one"))[2]
        claim = ("keeps", AHEAD, ROW, "one")
        self.assert_fault(("shown", claim, ("wide", wide, listed)), None)
        self.assert_fault(("shown", claim, ("wide", AHEAD, decide(claim)[2])), None)
        # A narrower way, and ways that are neither.
        narrow = ("keeps", wide, ROW, "one")
        self.assert_fault(("shown", narrow, ("wide", AHEAD, decide(claim)[2])), ("within",))
        for other in (ROW_FIRST, with_parts(AHEAD, {PICTURE: 2, MARKS: 2})):
            pictured = ("keeps", with_parts(AHEAD, {PICTURE: 1}), ROW, "one")
            self.assert_fault(("shown", pictured, ("wide", other, (first_of(AHEAD),))), ("within",))
        # What is within is told first, then the faults of the list by the wide way.
        self.assert_fault(("shown", narrow, ("wide", AHEAD, ())), ("within",))
        self.assert_fault(("shown", claim, ("wide", wide, ())), ("start",))
        self.assert_plain(("shown", claim, ("wide", wide, decide(claim)[2])), "open")
        broken = with_parts(AHEAD, {SLIPS: 1})
        found = tuple(sorted(plain_standings_for(broken, KEY, "ends")))
        self.assert_plain(("shown", ("keeps", AHEAD, KEY, "ends"), ("wide", broken, found)), "wish")
        self.assert_plain(("shown", ("keeps", AHEAD, KEY, "ends"), ("wide", broken, less(found, 3))), "open")

    def test_alike(self):
        claim = ("alike", AHEAD, OVER, OVER)
        listed = decide(claim)[2]
        self.assert_fault(("shown", claim, listed), None)
        self.assert_fault(("shown", claim, ()), ("start",))
        self.assert_fault(("shown", claim, listed[1:]), ("start",))
        for gone in range(1, len(listed)):
            self.assert_plain(("shown", claim, less(listed, gone)), "open")
        for way, rules, others in PAIRS:
            found = tuple(sorted(plain_doubles(way, rules, others)))
            if any(plain_parted(way, double) for double in found):
                claim = ("alike", way, rules, others)
                fault = self.assert_plain(("shown", claim, found), "differ")
                self.assert_fault(("shown", claim, found[1:]), ("start",))
                self.assertTrue(plain_parted(way, found[fault[1]]))

    def test_the_first_double_standing(self):
        claim = ("alike", AHEAD, OVER, KEY)
        self.assert_fault(("shown", claim, (first_of(AHEAD, doubled=True),)), ("open", 0, ("change", 1)))

    def test_needless(self):
        met = set()
        for way, rules, index in INDICES:
            found = tuple(sorted(plain_standings(way, rules)))
            claim = ("needless", way, rules, index)
            self.assert_fault(("shown", claim, found[1:]), ("start",))
            self.assert_plain(("shown", claim, less(found, 4)), "open")
            if decide(claim)[0] == "broken":
                met.add(self.assert_plain(("shown", claim, found), "asks")[1])
            else:
                self.assert_fault(("shown", claim, found), None)
        self.assertGreater(len(met), 3)

    def test_traces(self):
        claim = ("log", AHEAD, OVER, (0, 1, 3))
        listed = decide(claim)[2]
        self.assert_fault(("broken", claim, listed), None)
        self.assert_fault(("broken", claim, ()), ("start",))
        self.assert_fault(("broken", claim, listed[1:]), ("start",))
        for gone in range(1, len(listed)):
            self.assert_plain(("broken", claim, less(listed, gone)), "open")
        for way, rules, log in LOGS:
            if decide(("log", way, rules, log))[0] == "shown" and log != (0,):
                found = tuple(sorted(plain_traces(way, rules, log)))
                fault = self.assert_plain(("broken", ("log", way, rules, log), found), "end")
                self.assertEqual(found[fault[1]][0], len(log))
                self.assert_fault(("broken", ("log", way, rules, log), found[1:]), ("start",))
                self.assert_plain(("broken", ("log", way, rules, log), found[:-1]), "open")
        # With one showing the first trace is an end: nothing shows that it is not.
        found = tuple(sorted(plain_traces(AHEAD, OVER, (0,))))
        self.assert_fault(("broken", ("log", AHEAD, OVER, (0,)), found), ("end", 0))


if __name__ == "__main__":
    unittest.main()
