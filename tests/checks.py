"""What the tests of several searches check."""

import copy
import inspect
import unittest

from movedrows.checker import first_fault
from movedrows.errors import LimitExceeded
from plain import first_of, plain_behind, plain_steps
from plain_checker import plain_first_fault


class SearchCase(unittest.TestCase):
    def assert_limit(self, count, function, /, *handed):
        """Check that the function counts so many things, with any limit."""
        kept = copy.deepcopy(handed)
        answer = function(*handed, limit=count)
        self.assertEqual(function(*handed, limit=count + 1), answer)
        self.assertEqual(function(*handed, limit=2000), answer)
        self.assertEqual(function(*handed), answer)
        for limit in sorted({1, 2, count // 2, count - 1} - {0}):
            self.assert_exceeded(limit, function, *handed, limit=limit)
        self.assertEqual(handed, kept)

    def assert_exceeded(self, most, function, /, *handed, **named):
        """Check that there are more than most things."""
        with self.assertRaises(LimitExceeded) as caught:
            function(*handed, **named)
        self.assertEqual(caught.exception.limit, most)

    def assert_keyword_only_limit(self, function, /, *handed):
        """Check that the limit is passed by its keyword alone, and is 2,000 when it is left out."""
        limit = inspect.signature(function).parameters["limit"]
        self.assertEqual((limit.kind, limit.default), (inspect.Parameter.KEYWORD_ONLY, 2000))
        with self.assertRaises(TypeError):
            function(*handed, 2000)

    def assert_by_name(self, function, /, **named):
        """Check that the arguments can be passed by name, in any order, and do not change."""
        kept = copy.deepcopy(named)
        by_position = function(*named.values())
        self.assertEqual(function(**named), by_position)
        self.assertEqual(function(**dict(reversed(list(named.items())))), by_position)
        self.assertEqual(function(**dict(reversed(list(named.items()))), limit=1999), by_position)
        self.assertEqual(named, kept)

    def assert_ascending(self, found):
        """Check that this is a plain tuple, strictly ascending."""
        self.assertIs(type(found), tuple)
        for one, other in zip(found, found[1:]):
            self.assertLess(one, other)


class CheckedCase(unittest.TestCase):
    def assert_fault(self, certificate, fault):
        """Check the first fault, and that nothing that is handed in changes."""
        kept = copy.deepcopy(certificate)
        self.assertEqual(first_fault(certificate), fault)
        self.assertEqual(first_fault(certificate=certificate), fault)
        self.assertEqual(certificate, kept)

    def assert_paper(self, certificate, formed):
        """Check whether the paper has the form of a row, whatever other fault there is."""
        fault = first_fault(certificate)
        self.assertEqual(fault != ("paper",), formed, certificate)

    def assert_plain(self, certificate, word):
        """Check the first fault, which begins with the word, by the plain telling."""
        fault = plain_first_fault(certificate)
        self.assertEqual(fault[0], word)
        self.assert_fault(certificate, fault)
        return fault


def less(items, *gone):
    """Return the tuple without the items at these indices."""
    return tuple(item for index, item in enumerate(items) if index not in gone)


def plain_walked(way, rules, weaving):
    """Return the standing after the weaving; fail if a step of it cannot be done."""
    standing = first_of(way)
    for step in weaving:
        assert step in plain_steps(way, standing), (weaving, step)
        standing = plain_behind(way, rules, standing, step)
    return standing
