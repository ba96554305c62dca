import random
import unittest

from checks import CheckedCase
from claimed import BACKS, INDICES, LOGS, MENDS, PAIRS, SETTINGS, TRIALS
from damage import damaged
from movedrows.checker import first_fault
from movedrows.claims import decide
from movedrows.errors import LimitExceeded
from plain_checker import plain_first_fault


class Damaged(CheckedCase):
    """Drawn damages of right papers, by the plain telling."""

    def assert_damaged(self, claims, many, words):
        """Check some damages of the certificates of these claims; the words of the faults are all met."""
        met = set()
        for number, claim in enumerate(claims):
            made = random.Random(number)
            told = decide(claim)
            for _ in range(many):
                certificate = damaged(made, told)
                fault = plain_first_fault(certificate)
                with self.subTest(claim=certificate[:2]):
                    self.assertEqual(first_fault(certificate), fault)
                met.add(fault and fault[0])
        self.assertLessEqual(words | {None}, met)

    def test_keeps_and_soonest(self):
        claims = [("keeps",) + setting for setting in SETTINGS]
        claims += [("soonest",) + setting + (many,) for setting in SETTINGS[::2] for many in (None, 3, 4, 5)]
        self.assert_damaged(claims, 8, {"start", "open", "wish", "step", "level"})

    def test_alike_and_needless(self):
        claims = [("alike",) + pair for pair in PAIRS] + [("needless",) + index for index in INDICES]
        self.assert_damaged(claims, 8, {"start", "open", "step", "same", "asks"})

    def test_back(self):
        claims = [("back",) + back + (most,) for back in BACKS for most in (None, 0, 6, 12, 40)]
        self.assert_damaged(claims, 8, {"start", "open", "value", "step", "lies", "leads", "bound", "weight"})

    def test_mend(self):
        claims = [("mend",) + mend + (most,) for mend in MENDS for most in (None, 0, 2, 5, 12)]
        self.assert_damaged(claims, 6, {"cost", "list", "many", "break"})

    def test_log_and_none(self):
        claims = [("log",) + log for log in LOGS] + [("none",) + trial for trial in TRIALS]
        self.assert_damaged(claims, 10, {"step", "log", "start", "open", "list", "leaf"})


class BothVerdicts(CheckedCase):
    def test_papers_of_one_verdict_are_none_of_the_other(self):
        claims = [("keeps",) + setting for setting in SETTINGS] + [("alike",) + pair for pair in PAIRS]
        claims += [("soonest",) + setting + (many,) for setting in SETTINGS[:8] for many in (None, 3, 4)]
        claims += [("needless",) + index for index in INDICES] + [("log",) + log for log in LOGS]
        claims += [("back",) + back + (most,) for back in BACKS[:5] for most in (None, 0, 12)]
        claims += [("mend",) + mend + (most,) for mend in MENDS for most in (None, 0, 5)]
        claims += [("none",) + trial for trial in TRIALS]
        papers = [decide(claim)[2] for claim in claims]
        for claim in claims:
            verdict = decide(claim)[0]
            other = {"shown": "broken", "broken": "shown"}[verdict]
            accepted = [first_fault((other, claim, paper)) is None for paper in papers[::5]]
            self.assertFalse(any(accepted))

    def test_drawn_papers(self):
        # Whatever is damaged, a paper that is accepted has the verdict that is right for its claim.
        claims = [("keeps",) + setting for setting in SETTINGS] + [("alike",) + pair for pair in PAIRS]
        claims += [("soonest",) + setting + (many,) for setting in SETTINGS[::3] for many in (None, 3, 4, 5)]
        claims += [("needless",) + index for index in INDICES] + [("log",) + log for log in LOGS]
        claims += [("back",) + back + (most,) for back in BACKS for most in (None, 0, 6, 12)]
        claims += [("mend",) + mend + (most,) for mend in MENDS for most in (None, 0, 5, 12)]
        claims += [("none",) + trial for trial in TRIALS]
        made, accepted = random.Random(7), 0
        for claim in claims:
            told = decide(claim)
            for _ in range(8):
                verdict, other, paper = damaged(made, told)
                if first_fault((verdict, other, paper)) is None:
                    with self.subTest(claim=other):
                        accepted += self.is_decided_so(other, verdict)
        self.assertGreater(accepted, 100)

    def is_decided_so(self, claim, verdict):
        """Check that this is the right verdict; return whether it could be decided within the limit."""
        try:
            self.assertEqual(decide(claim)[0], verdict)
        except LimitExceeded:
            return False
        return True


if __name__ == "__main__":
    unittest.main()
