import copy
import inspect
import unittest

from checks import SearchCase, plain_walked
from claimed import BACKS, BEHIND, EACH, INDICES, KEY, LOGS, MENDLESS, MENDS, OVER, PAIRS, ROW, SETTINGS, SLIPPING
from claimed import TRIALS
from given import AHEAD, APART, NO_INTEGERS, NO_TUPLES, NO_WISHES, nested
from movedrows.checker import first_fault
from movedrows.claims import decide, require_claim
from movedrows.errors import InvalidClaim, LimitExceeded
from movedrows.trials import first_table
from plain import plain_asked, plain_broken, plain_double_behind, plain_doubles, plain_parted, plain_remembered
from plain import first_of, plain_standings, plain_standings_for, plain_steps, plain_ways_back
from plain_searches import Trial, plain_counts, plain_mend, plain_mend_counts, plain_showing, plain_traces

GREAT = 10 ** 40
OPTIONS = ((0, 1, 5), (1, 1, 2))

# A claim of each kind.
CLAIMS = (
    ("keeps", APART, OVER, "one"),
    ("soonest", APART, OVER, "one", 4),
    ("alike", APART, OVER, KEY),
    ("needless", APART, OVER, 0),
    ("back", APART, KEY, EACH, 12),
    ("mend", APART, OVER, ("one",), OPTIONS, 5),
    ("log", APART, OVER, (0, 1, 3)),
    ("none", AHEAD, ("ends", "there")),
)

# What no claim has in the place of each of its parts, by their kinds.
NO_WAYS = NO_TUPLES + (AHEAD[:8], AHEAD + (0,), (0,) * 9, (3,) + AHEAD[1:], (True,) + AHEAD[1:], list(AHEAD), OVER)
NO_RULES = NO_TUPLES + (OVER[:26], OVER + (0,), (6,) * 27, (None,) * 27, (True,) + OVER[1:], list(OVER), "over", AHEAD)
NO_WEIGHTS = NO_TUPLES + (EACH[:7], EACH + (0,), (-1,) + EACH[1:], (10 ** 30 + 1,) + EACH[1:], (True,) * 8, list(EACH))
NO_WISHES_TUPLES = NO_TUPLES + (
    (), ("no",), ("one", "one"), ("one", "ends"), ("on", "ends"), ("there", "one"), ["one"], "one", ("one", None),
    (None, "one"), (("one",),), ("ends", "on", "one", "there", "there"), ("ends", "on", "one", "thing"), ("one",) * 10000)
NO_OPTIONS = NO_TUPLES + (
    (), OPTIONS * 2, (None,), ((0, 1),), ((0, 3, 5),), ((0, 1, 100),), ((36, 0, 0),), list(OPTIONS), ((0, True, 5),))
NO_LOGS = NO_TUPLES + ((), (1,), (0, 0), (0, 4), (0, 1) * 4 + (0,), (0, True), [0, 1], (False,))
NO_PARTS = {
    "way": NO_WAYS, "rules": NO_RULES, "wish": NO_WISHES, "weights": NO_WEIGHTS, "wishes": NO_WISHES_TUPLES,
    "options": NO_OPTIONS, "log": NO_LOGS,
    "index": NO_INTEGERS + (-1, 27, GREAT),
    "steps": tuple(value for value in NO_INTEGERS if value is not None) + (0, -1, 2001, GREAT),
    "weight": tuple(value for value in NO_INTEGERS if value is not None) + (-1, GREAT + 1),
    "cost": tuple(value for value in NO_INTEGERS if value is not None) + (-1, 301, GREAT),
}
PARTS = {
    "keeps": ("way", "rules", "wish"),
    "soonest": ("way", "rules", "wish", "steps"),
    "alike": ("way", "rules", "rules"),
    "needless": ("way", "rules", "index"),
    "back": ("way", "rules", "weights", "weight"),
    "mend": ("way", "rules", "wishes", "options", "cost"),
    "log": ("way", "rules", "log"),
    "none": ("way", "wishes"),
}


class RequireClaim(unittest.TestCase):
    def assert_valid(self, claim):
        self.assertIs(require_claim(claim), claim)
        self.assertIs(require_claim(claim=claim), claim)

    def assert_invalid(self, claim):
        kept = copy.deepcopy(claim)
        for function in (require_claim, decide):
            with self.assertRaises(InvalidClaim) as caught:
                function(claim)
            self.assertEqual(vars(caught.exception), {})
        self.assertEqual(claim, kept)
        self.assertEqual(first_fault(("shown", claim, ())), ("claim",))

    def test_each_of_the_eight(self):
        self.assertEqual([claim[0] for claim in CLAIMS], list(PARTS))
        for claim in CLAIMS:
            self.assert_valid(claim)

    def test_each_part_of_each(self):
        for claim in CLAIMS:
            for index, part in enumerate(PARTS[claim[0]], start=1):
                for value in NO_PARTS[part]:
                    with self.subTest(claim=claim[0], part=part, value=str(value)[:60]):
                        self.assert_invalid(claim[:index] + (value,) + claim[index + 1:])

    def test_numbers_of_steps(self):
        for number in (None, 1, 2, 1999, 2000):
            self.assert_valid(CLAIMS[1][:4] + (number,))

    def test_indices(self):
        for index in range(27):
            self.assert_valid(CLAIMS[3][:3] + (index,))

    def test_weights_of_ways_back(self):
        for number in (None, 0, 1, 2001, GREAT - 1, GREAT):
            self.assert_valid(CLAIMS[4][:4] + (number,))

    def test_costs(self):
        for number in (None, 0, 1, 99, 299, 300):
            self.assert_valid(CLAIMS[5][:5] + (number,))

    def test_wishes(self):
        for wishes in (("ends",), ("ends", "on", "one", "there"), ("on", "there"), ("there",)):
            self.assert_valid(("none", AHEAD, wishes))
            self.assert_valid(("mend", APART, OVER, wishes, OPTIONS, None))

    def test_other_words(self):
        for claim in CLAIMS:
            for word in NO_INTEGERS + ("Keeps", "keep", "keeps ", "shown", "one", 0, ("keeps",), ["keeps"], nested(98)):
                with self.subTest(claim=claim[0], word=str(word)[:60]):
                    self.assert_invalid((word,) + claim[1:])
        for claim, other in zip(CLAIMS, CLAIMS[1:] + CLAIMS[:1]):
            self.assert_invalid((other[0],) + claim[1:])

    def test_other_lengths(self):
        for claim in CLAIMS:
            for value in (claim[:-1], claim + (None,), claim + (0,), claim[:1], claim[1:], claim * 2):
                with self.subTest(value=value):
                    self.assert_invalid(value)

    def test_lists_and_other_values(self):
        for claim in CLAIMS:
            self.assert_invalid(list(claim))
            self.assert_invalid((claim,))
            self.assert_invalid(dict(enumerate(claim)))
        for value in NO_TUPLES + ((), nested(99), ("keeps",) * 1000):
            with self.subTest(value=str(value)[:60]):
                self.assert_invalid(value)

    def test_ahead_of_the_limit(self):
        with self.assertRaises(InvalidClaim):
            decide(("keeps", (2, 1, 3, 2, 1, 1, 3, 2, 1), OVER, "no"), limit=1, tables=1)


class Decided(SearchCase):
    def assert_decided(self, claim, expected, kind=None):
        """Check the verdict, that the certificate is of the claim itself and right; return the paper."""
        kept = copy.deepcopy(claim)
        told = decide(claim)
        with self.subTest(claim=claim):
            self.assertEqual(claim, kept)
            self.assertEqual((type(told), len(told)), (tuple, 3))
            self.assertEqual(told[0], "shown" if expected else "broken")
            self.assertIs(told[1], claim)
            self.assertIsNone(first_fault(told))
            self.assertEqual(told[2][0] if told[2] and isinstance(told[2][0], str) else None, kind)
            other = "broken" if expected else "shown"
            self.assertIsNotNone(first_fault((other,) + told[1:]))
        return told[2]


def plain_soonest(way, rules, word):
    """Return the least number of steps that break the wish, or None."""
    counts = plain_standings_for(way, rules, word)
    return min((count for standing, count in counts.items() if plain_broken(way, word, standing)), default=None)


class Keeps(Decided):
    def assert_breaks(self, way, rules, word, weaving, many):
        """Check that the weaving has so many steps and breaks the wish."""
        self.assertEqual(len(weaving), many)
        standing = first_of(way)
        for step in weaving:
            self.assertIn(step, plain_steps(way, standing))
            standing = plain_remembered(way, rules, word, standing, step)
        self.assertTrue(plain_broken(way, word, standing))

    def test_keeps(self):
        for way, rules, word in SETTINGS:
            many = plain_soonest(way, rules, word)
            paper = self.assert_decided(("keeps", way, rules, word), many is None)
            if many is None:
                self.assertEqual(paper, tuple(sorted(plain_standings_for(way, rules, word))))
            else:
                self.assert_breaks(way, rules, word, paper, many)

    def test_soonest(self):
        for way, rules, word in SETTINGS:
            many = plain_soonest(way, rules, word)
            if many is None:
                self.assert_decided(("soonest", way, rules, word, None), True)
                for other in (1, 7, 2000):
                    self.assert_decided(("soonest", way, rules, word, other), False, "kept")
                continue
            paper = self.assert_decided(("soonest", way, rules, word, many), True)
            self.assert_breaks(way, rules, word, paper[2], many)
            for other in (None, many + 1, 2000):
                paper = self.assert_decided(("soonest", way, rules, word, other), False, "sooner")
                self.assert_breaks(way, rules, word, paper[1], many)
            for other in {1, many - 1}:
                self.assert_decided(("soonest", way, rules, word, other), False, "later")

    def test_the_example(self):
        told = decide(("keeps", (2, 0, 1, 0, 0, 0, 0, 0, 0), OVER, "one"))
        self.assertEqual(
            (told[0], len(told[2]), first_fault(told), first_fault(("shown",) + told[1:])),
            ("broken", 4, None, ("paper",)))


class AlikeAndNeedless(Decided):
    def test_alike(self):
        for way, rules, others in PAIRS:
            counts = plain_doubles(way, rules, others)
            least = min((count for double, count in counts.items() if plain_parted(way, double)), default=None)
            paper = self.assert_decided(("alike", way, rules, others), least is None)
            if least is not None:
                self.assertEqual(len(paper), least)
                double = first_of(way, doubled=True)
                for step in paper:
                    double = plain_double_behind(way, rules, others, double, step)
                self.assertTrue(plain_parted(way, double))

    def test_needless(self):
        for way, rules, index in INDICES:
            counts = plain_counts(way, rules)
            paper = self.assert_decided(("needless", way, rules, index), index not in counts)
            if index in counts:
                self.assertEqual(len(paper), counts[index])
                ahead = plain_walked(way, rules, paper[:-1])
                self.assertEqual(plain_asked(way, rules, ahead, paper[-1]), index)


class Back(Decided):
    def test_each_number(self):
        met = set()
        for way, rules, weights in BACKS:
            least = plain_ways_back(way, rules, weights, plain_standings(way, rules))
            far = None if None in least.values() else max(least.values())
            met.add(far)
            if far is None:
                self.assert_decided(("back", way, rules, weights, None), True)
                for other in (0, 12, GREAT):
                    self.assert_decided(("back", way, rules, weights, other), False, "never")
                continue
            self.assert_decided(("back", way, rules, weights, far), True)
            for other in (None, far + 1, GREAT):
                self.assert_decided(("back", way, rules, weights, other), False, "less")
            if far > 0:
                for other in {0, far - 1}:
                    self.assert_decided(("back", way, rules, weights, other), False, "more")
        self.assertTrue({None, 0, 12, 2 * 10 ** 30} < met, met)


class Mend(Decided):
    def test_each_number(self):
        met = set()
        for way, rules, wishes, options in MENDS:
            choice = plain_mend(way, rules, wishes, options)
            cost = None if choice is None else sum(options[index][2] for index in choice)
            met.add(cost)
            claim = ("mend", way, rules, wishes, options)
            if cost is None:
                self.assert_decided(claim + (None,), True)
                for other in (0, 2, 300):
                    self.assert_decided(claim + (other,), False, "more")
                continue
            self.assertEqual(self.assert_decided(claim + (cost,), True)[0], choice)
            for other in (None, cost + 1, 300):
                self.assertEqual(self.assert_decided(claim + (other,), False, "less")[1], choice)
            if cost > 0:
                for other in {0, cost - 1}:
                    self.assert_decided(claim + (other,), False, "more")
        self.assertTrue({None, 0, 5, 12} < met, met)


class LogAndNone(Decided):
    def test_log(self):
        for way, rules, log in LOGS:
            counts = plain_traces(way, rules, log)
            ends = [count for (many, _), count in counts.items() if many == len(log)]
            paper = self.assert_decided(("log", way, rules, log), bool(ends))
            if ends:
                self.assertEqual(len(paper), min(ends))
                told = [0]
                for many in range(len(paper) + 1):
                    told.append(plain_showing(way, plain_walked(way, rules, paper[:many])))
                self.assertEqual(tuple(b for a, b in zip([None] + told, told) if a != b), log)
            else:
                self.assertEqual(paper, tuple(sorted(counts)))

    def test_none(self):
        met = set()
        for way, wishes in TRIALS:
            rules = first_table(way, wishes)
            met.add(rules is None)
            claim = ("none", way, wishes)
            told = decide(claim)
            with self.subTest(claim=claim):
                self.assertEqual(told[0], "shown" if rules is None else "broken")
                self.assertIs(told[1], claim)
                self.assertIsNone(first_fault(told))
                self.assertIsNotNone(first_fault(({"shown": "broken", "broken": "shown"}[told[0]],) + told[1:]))
                if rules is not None:
                    self.assertEqual(told[2][0], rules)
                    lists = [tuple(sorted(plain_standings_for(way, rules, word))) for word in wishes]
                    self.assertEqual(told[2][1], tuple(lists))
        self.assertEqual(met, {True, False})


class Limit(SearchCase):
    def test_just_as_many(self):
        for claim, many in (
                (CLAIMS[0], len(plain_standings_for(APART, OVER, "one"))),
                (("keeps", AHEAD, OVER, "there"), len(plain_standings_for(AHEAD, OVER, "there"))),
                (CLAIMS[1], len(plain_standings_for(APART, OVER, "one"))),
                (("soonest", AHEAD, ROW, "on", None), len(plain_standings_for(AHEAD, ROW, "on"))),
                (("soonest", AHEAD, OVER, "there", 1), len(plain_standings_for(AHEAD, OVER, "there"))),
                (CLAIMS[2], len(plain_doubles(APART, OVER, KEY))),
                (("alike", APART, OVER, ROW), len(plain_doubles(APART, OVER, ROW))),
                (CLAIMS[3], len(plain_standings(APART, OVER))),
                (("needless", APART, OVER, 9), len(plain_standings(APART, OVER))),
                (CLAIMS[4], len(plain_standings(APART, KEY))),
                (CLAIMS[4][:4] + (None,), len(plain_standings(APART, KEY))),
                (("back", SLIPPING, KEY, EACH, 3), len(plain_standings(SLIPPING, KEY))),
                (CLAIMS[5], max(plain_mend_counts(APART, OVER, ("one",), OPTIONS).values())),
                (CLAIMS[5][:5] + (0,), max(plain_mend_counts(APART, OVER, ("one",), OPTIONS).values())),
                (CLAIMS[6], len(plain_traces(APART, OVER, (0, 1, 3)))),
                (("log", AHEAD, OVER, (0, 1, 3)), len(plain_traces(AHEAD, OVER, (0, 1, 3)))),
                (CLAIMS[7], max(Trial(AHEAD, ("ends", "there")).counts)),
                (("none", AHEAD, ("ends",)), max(Trial(AHEAD, ("ends",)).counts))):
            with self.subTest(claim=claim):
                self.assert_limit(many, decide, claim)

    def test_choices_behind_the_first_one_that_mends_count(self):
        for way, rules, wishes, options, choice in BEHIND:
            most = max(plain_mend_counts(way, rules, wishes, options).values())
            cost = sum(options[index][2] for index in choice)
            for other in (None, 0, cost, cost + 1):
                claim = ("mend", way, rules, wishes, options, other)
                with self.subTest(claim=claim):
                    told = decide(claim, limit=most)
                    self.assertEqual(told[:2], ("shown" if other == cost else "broken", claim))
                    self.assertIsNone(first_fault(told))
                    self.assert_exceeded(most - 1, decide, claim, limit=most - 1)

    def test_the_last_choice_counts_where_none_mends(self):
        *others, last = plain_mend_counts(*MENDLESS).values()
        self.assertLess(max(others), last)
        for other in (None, 0, 8, 300):
            claim = ("mend",) + MENDLESS + (other,)
            self.assertEqual(decide(claim, limit=last)[0], "shown" if other is None else "broken")
            self.assert_exceeded(last - 1, decide, claim, limit=last - 1)

    def test_just_as_many_tables(self):
        for wishes in (("ends",), ("ends", "there")):
            claim, many = ("none", AHEAD, wishes), len(Trial(AHEAD, wishes).tried)
            self.assertEqual(decide(claim, tables=many), decide(claim))
            for most in (1, 2, many - 1):
                with self.assertRaises(LimitExceeded) as caught:
                    decide(claim, tables=most)
                self.assertEqual(caught.exception.limit, most)

    def test_tables_count_for_none_alone(self):
        for claim in CLAIMS[:7]:
            self.assertEqual(decide(claim, tables=1), decide(claim))

    def test_also_where_the_answer_could_be_told(self):
        great = (2, 1, 3, 2, 1, 1, 3, 2, 1)
        for claim in CLAIMS[:7]:
            self.assert_exceeded(2000, decide, (claim[0], great) + claim[2:])
            self.assert_exceeded(2000, decide, (claim[0], great) + claim[2:], limit=2000)
            self.assert_exceeded(60, decide, (claim[0], great) + claim[2:], limit=60)

    def test_keyword_only(self):
        self.assert_keyword_only_limit(decide, CLAIMS[0])
        tables = inspect.signature(decide).parameters["tables"]
        self.assertEqual((tables.kind, tables.default), (inspect.Parameter.KEYWORD_ONLY, 200))

    def test_by_name(self):
        for claim in CLAIMS:
            self.assert_by_name(decide, claim=claim)
            self.assertEqual(decide(tables=200, limit=2000, claim=claim), decide(claim))
            told = decide(claim)
            self.assertIsNone(first_fault(certificate=told))


if __name__ == "__main__":
    unittest.main()
