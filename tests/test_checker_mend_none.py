import unittest

from checks import CheckedCase, less
from claimed import MENDS, OVER, PEEKING, ROW_FIRST, SLIPPING, TRIALS
from given import AHEAD, APART, LAG, MARKS, PICTURE, with_parts
from movedrows.claims import decide
from plain import plain_standings_for
from plain_checker import plain_first_fault
from plain_searches import put


class Mend(CheckedCase):
    options = ((0, 1, 5), (1, 1, 2))
    claim = ("mend", APART, OVER, ("one",), options)

    def test_shown_with_a_cost(self):
        claim = self.claim + (5,)
        choice, lists, breaks = decide(claim)[2]
        self.assertEqual((choice, len(lists), [word for word, _ in breaks]), ((0,), 1, ["one", "one"]))
        self.assert_fault(("shown", claim, (choice, lists, breaks)), None)
        self.assert_fault(("shown", self.claim + (7,), (choice, lists, breaks)), ("cost",))
        # The list beside a choice is of its way: that of another choice has other lanes.
        self.assert_fault(("shown", claim, ((1,), lists, breaks)), ("paper",))
        self.assert_fault(("shown", claim, ((0, 1), lists, breaks)), ("cost",))
        self.assert_fault(("shown", claim, (choice, ((),), breaks)), ("list", 0, ("start",)))
        self.assert_plain(("shown", claim, (choice, (less(lists[0], 3),), breaks)), "list")
        self.assert_fault(("shown", claim, (choice, lists, breaks[:1])), ("many",))
        self.assert_fault(("shown", claim, (choice, lists, breaks * 2)), ("many",))
        self.assert_fault(("shown", claim, (choice, lists, ())), ("many",))
        short = (("one", breaks[0][1][:-1]), breaks[1])
        self.assert_fault(("shown", claim, (choice, lists, short)), ("break", 0, ("wish",)))
        wrong = (breaks[0], ("one", breaks[1][1][1:]))
        self.assert_fault(("shown", claim, (choice, lists, wrong)), ("break", 1, ("step", 0)))

    def test_the_order_of_the_faults(self):
        choice, lists, breaks = decide(self.claim + (5,))[2]
        self.assert_fault(("shown", self.claim + (6,), (choice, ((),), ())), ("cost",))
        self.assert_fault(("shown", self.claim + (5,), (choice, ((),), ())), ("list", 0, ("start",)))
        self.assert_fault(("shown", self.claim + (5,), (choice, lists, (("one", ()),))), ("many",))
        both = (("one", ()), ("one", (("take", 0),)))
        self.assert_fault(("shown", self.claim + (5,), (choice, lists, both)), ("break", 0, ("wish",)))
        self.assert_fault(("shown", self.claim + (5,), (choice, lists, both[::-1])), ("break", 0, ("step", 0)))

    def test_lists_of_several_wishes(self):
        claim = MENDS[6]
        cost = 12
        choice, lists, breaks = decide(("mend",) + claim + (cost,))[2]
        self.assertEqual(len(lists), 3)
        for index in range(3):
            wrong = put(lists, {index: lists[index][1:]})
            self.assert_fault(("shown", ("mend",) + claim + (cost,), (choice, wrong, breaks)), ("list", index, ("start",)))
            self.assert_fault(("broken", ("mend",) + claim + (None,), ("less", choice, wrong)), ("list", index, ("start",)))
            if index:
                wrong = put(wrong, {0: less(lists[0], 4)})
                self.assert_plain(("shown", ("mend",) + claim + (cost,), (choice, wrong, breaks)), "list")

    def test_a_list_in_which_a_wish_is_broken(self):
        found = tuple(sorted(plain_standings_for(APART, OVER, "one")))
        fault = self.assert_plain(("broken", self.claim + (None,), ("less", (), (found,))), "list")
        self.assertEqual(fault[2][0], "wish")

    def test_shown_without_a_cost(self):
        claim = ("mend", APART, OVER, ("one",), ((1, 1, 2),), None)
        breaks = decide(claim)[2]
        self.assertEqual(len(breaks), 2)
        self.assert_fault(("shown", claim, breaks), None)
        for wrong in (breaks[:1], breaks * 2, ()):
            self.assert_fault(("shown", claim, wrong), ("many",))
        self.assert_fault(("shown", claim, (breaks[0], ("one", ()))), ("break", 1, ("wish",)))
        self.assert_fault(("shown", self.claim + (None,), (breaks[0],) * 4), ("break", 2, ("step", 3)))

    def test_choices_that_cost_one_less(self):
        # The cheaper choice costs 4: for 5 it has to be broken, for 4 it has not.
        claim = ("mend", APART, OVER, ("one",), ((0, 1, 5), (1, 1, 4)))
        choice, lists, breaks = decide(claim + (5,))[2]
        self.assertEqual(len(breaks), 2)
        self.assert_fault(("shown", claim + (5,), (choice, lists, breaks)), None)
        self.assert_fault(("shown", claim + (5,), (choice, lists, breaks[:1])), ("many",))
        self.assert_fault(("broken", claim + (4,), ("more", breaks)), None)
        self.assert_fault(("broken", claim + (3,), ("more", breaks)), ("many",))
        self.assert_fault(("broken", claim + (3,), ("more", breaks[:1])), None)

    def test_less(self):
        paper = decide(self.claim + (None,))[2]
        _, choice, lists = paper
        for number in (None, 6, 7, 300):
            self.assert_fault(("broken", self.claim + (number,), paper), None)
        for number in (0, 4, 5):
            self.assert_fault(("broken", self.claim + (number,), paper), ("cost",))
        self.assert_fault(("broken", self.claim + (5,), ("less", choice, ((),))), ("cost",))
        self.assert_fault(("broken", self.claim + (6,), ("less", choice, ((),))), ("list", 0, ("start",)))

    def test_more(self):
        for number, many in ((0, 1), (1, 1), (2, 2), (4, 2)):
            paper = decide(self.claim + (number,))[2]
            self.assertEqual((paper[0], len(paper[1])), ("more", many))
            self.assert_fault(("broken", self.claim + (number,), paper), None)
            self.assert_fault(("broken", self.claim + (number,), ("more", paper[1][1:])), ("many",))
            self.assert_fault(("broken", self.claim + (number,), ("more", paper[1] * 2)), ("many",))
            wrong = put(paper[1], {many - 1: ("one", ())})
            self.assert_fault(("broken", self.claim + (number,), ("more", wrong)), ("break", many - 1, ("wish",)))
        # The choice that costs just so much has to be broken, too.
        self.assert_fault(("broken", self.claim + (5,), decide(self.claim + (4,))[2]), ("many",))

    def test_breaks_stand_in_the_order_of_the_choices(self):
        options = ((1, 1, 3), (4, 1, 1))
        claim = ("mend", APART, OVER, ("ends", "one"), options, None)
        slipped, moved = ("ends", (("change", 1), ("slip", 0))), decide(("keeps", APART, OVER, "one"))[2]
        self.assert_fault(("shown", claim, (("one", moved), slipped, ("one", moved), slipped)), None)
        self.assert_fault(("shown", claim, (slipped, ("one", moved), slipped, slipped)), ("break", 0, ("step", 1)))
        self.assert_fault(("shown", claim, (("one", moved), slipped, slipped, slipped)), ("break", 2, ("step", 1)))


class NoRules(CheckedCase):
    claim = ("none", AHEAD, ("ends", "there"))

    def test_shown(self):
        tree = decide(self.claim)[2]
        self.assert_fault(("shown", self.claim, tree), None)
        self.assertEqual(tree[0], 9)

    def test_an_index_that_stands_above(self):
        index, trees = decide(self.claim)[2]
        leaf = trees[0]
        self.assertEqual(leaf[0], "ends")
        again = (index, put(trees, {3: (index, trees)}))
        self.assert_fault(("shown", self.claim, again), ("index", (3,)))
        deeper = (index, put(trees, {2: (4, (leaf,) * 5 + ((5, (leaf,) * 5 + ((4, (leaf,) * 6),)),))}))
        fault = self.assert_plain(("shown", self.claim, deeper), "leaf")
        self.assertEqual(fault[1][0], 1 if decide(self.claim)[2][1][1][0] == "ends" else 2)
        # The node is told ahead of its trees.
        self.assert_fault(("shown", self.claim, (9, ((9, (("ends", ()),) * 6),) + trees[1:])), ("index", (0,)))

    def test_leaves(self):
        index, trees = decide(self.claim)[2]
        word, weaving = trees[0]
        self.assertEqual((word, weaving), ("ends", (("change", 1), ("take", 0))))

        def with_first(leaf):
            return ("shown", self.claim, (index, (leaf,) + trees[1:]))
        self.assert_fault(with_first((word, weaving[:1])), ("leaf", (0,), ("wish",)))
        self.assert_fault(with_first((word, weaving[1:])), ("leaf", (0,), ("step", 0)))
        self.assert_fault(with_first((word, weaving + weaving[1:])), ("leaf", (0,), ("step", 2)))
        asks = weaving + (("change", 0), ("take", 0))
        self.assert_fault(with_first((word, asks)), ("leaf", (0,), ("asks", 3)))
        # Whichever step is first.
        self.assert_fault(with_first((word, asks + weaving[1:])), ("leaf", (0,), ("asks", 3)))
        self.assert_fault(with_first((word, weaving[1:] + asks)), ("leaf", (0,), ("step", 0)))
        self.assert_fault(with_first(("there", weaving)), ("leaf", (0,), ("wish",)))

    def test_the_first_leaf_with_a_fault(self):
        index, trees = decide(self.claim)[2]
        bad = ("ends", ())
        self.assert_fault(("shown", self.claim, (index, (trees[0],) + (bad,) * 5)), ("leaf", (1,), ("wish",)))
        self.assert_fault(("shown", self.claim, (index, (bad,) * 6)), ("leaf", (0,), ("wish",)))
        self.assert_fault(("shown", self.claim, bad), ("leaf", (), ("wish",)))

    def test_each_part_of_the_tree(self):
        tree = decide(self.claim)[2]
        for path, leaf in leaves_of(tree):
            for other in (("ends", ()), ("there", ()), (leaf[0], leaf[1][:-1]), (leaf[0], leaf[1] * 2), (7, (leaf,) * 6)):
                changed = with_leaf(tree, path, other)
                fault = plain_first_fault(("shown", self.claim, changed))
                self.assert_fault(("shown", self.claim, changed), fault)

    def test_a_leaf_alone(self):
        claim = ("none", SLIPPING, ("ends",))
        self.assert_fault(("shown", claim, ("ends", (("change", 1), ("slip", 0)))), None)
        self.assert_fault(("shown", claim, ("ends", (("change", 2),))), ("leaf", (), ("wish",)))
        self.assert_fault(("shown", claim, ("ends", (("change", 1), ("take", 0)))), ("leaf", (), ("asks", 1)))

    def test_narrow(self):
        tree = decide(self.claim)[2]
        wide = ("none", with_parts(AHEAD, {LAG: 3, MARKS: 2, PICTURE: 1}), ("ends", "there"))
        self.assert_fault(("shown", wide, ("narrow", AHEAD, tree)), None)
        self.assert_fault(("shown", self.claim, ("narrow", AHEAD, tree)), None)
        for other in (wide[1], ROW_FIRST, APART, PEEKING):
            self.assert_fault(("shown", self.claim, ("narrow", other, tree)), ("within",))
        self.assert_fault(("shown", self.claim, ("narrow", PEEKING, ("ends", ()))), ("within",))
        self.assert_fault(("shown", wide, ("narrow", AHEAD, ("ends", ()))), ("leaf", (), ("wish",)))
        self.assert_fault(("shown", ("none", wide[1], ("ends",)), (
            "narrow", AHEAD, ("ends", (("change", 1), ("picture",))))), ("leaf", (), ("step", 1)))

    def test_broken(self):
        for way, wishes in TRIALS:
            verdict, claim, paper = decide(("none", way, wishes))
            if verdict == "broken":
                rules, lists = paper
                self.assert_fault((verdict, claim, paper), None)
                for index in range(len(wishes)):
                    wrong = put(lists, {index: lists[index][1:]})
                    self.assert_fault((verdict, claim, (rules, wrong)), ("list", index, ("start",)))
                    wrong = put(lists, {index: lists[index][:-1]})
                    self.assert_plain((verdict, claim, (rules, wrong)), "list")

    def test_rules_that_break_a_wish(self):
        # Rules that lay nothing keep "one", and break "ends".
        nothing, wishes = (0,) * 27, ("ends", "one")
        found = tuple(tuple(sorted(plain_standings_for(AHEAD, nothing, word))) for word in wishes)
        fault = self.assert_plain(("broken", ("none", AHEAD, wishes), (nothing, found)), "list")
        self.assertEqual((fault[1], fault[2][0]), (0, "wish"))
        self.assert_fault(("broken", ("none", AHEAD, wishes[1:]), (nothing, found[1:])), None)


def leaves_of(tree, path=()):
    """Return a list of (path, leaf) of the tree."""
    if isinstance(tree[0], str):
        return [(path, tree)]
    return [leaf for action, other in enumerate(tree[1]) for leaf in leaves_of(other, path + (action,))]


def with_leaf(tree, path, leaf):
    """Return the tree with something else at the path."""
    if not path:
        return leaf
    return (tree[0], put(tree[1], {path[0]: with_leaf(tree[1][path[0]], path[1:], leaf)}))


if __name__ == "__main__":
    unittest.main()
