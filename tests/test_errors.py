import unittest

from movedrows import errors

# Each class with its built-in base and its arguments.
CLASSES = {
    "InvalidHistory": (ValueError, ("index",)),
    "InvalidRules": (ValueError, ("index",)),
    "InvalidWay": (ValueError, ("index",)),
    "InvalidWeights": (ValueError, ("index",)),
    "InvalidOptions": (ValueError, ("index",)),
    "InvalidLog": (ValueError, ("index",)),
    "InvalidNames": (ValueError, ("index",)),
    "InvalidClaim": (ValueError, ()),
    "ParseError": (ValueError, ("line",)),
    "UnknownName": (LookupError, ("value",)),
    "UnknownWord": (LookupError, ("value",)),
    "CannotStep": (RuntimeError, ("index",)),
    "Refused": (RuntimeError, ("index", "reason")),
    "NothingDone": (RuntimeError, ()),
    "LimitExceeded": (OverflowError, ("limit",)),
}

WORTHS = (0, 7, -1, None, "text", [1, 2], {"a": 1}, (1, (2,)), 10 ** 30)


class Errors(unittest.TestCase):
    def test_each_is_a_direct_subclass_of_its_base_alone(self):
        for name, (base, _) in CLASSES.items():
            with self.subTest(name):
                self.assertEqual(getattr(errors, name).__bases__, (base,))

    def test_none_is_a_subclass_of_another_one(self):
        for name in CLASSES:
            for other in CLASSES:
                if name != other:
                    with self.subTest(name=name, other=other):
                        self.assertFalse(issubclass(getattr(errors, name), getattr(errors, other)))

    def test_each_stands_in_the_module_itself(self):
        for name in CLASSES:
            with self.subTest(name):
                self.assertEqual(getattr(errors, name).__module__, "movedrows.errors")
                self.assertEqual(getattr(errors, name).__name__, name)

    def test_made_by_position(self):
        for name, (_, attributes) in CLASSES.items():
            for worth in WORTHS:
                with self.subTest(name=name, worth=worth):
                    given = [worth, "reason"][:len(attributes)]
                    error = getattr(errors, name)(*given)
                    self.assertEqual([getattr(error, word) for word in attributes], given)

    def test_made_by_name(self):
        for name, (_, attributes) in CLASSES.items():
            for worth in WORTHS:
                with self.subTest(name=name, worth=worth):
                    given = dict(reversed(list(zip(attributes, (worth, "reason")))))
                    error = getattr(errors, name)(**given)
                    self.assertEqual({word: getattr(error, word) for word in attributes}, given)

    def test_the_very_argument_is_kept(self):
        value = [1, [2], {"a": []}]
        self.assertIs(errors.UnknownWord(value).value, value)
        self.assertIs(errors.UnknownName(value=value).value, value)
        self.assertEqual(value, [1, [2], {"a": []}])

    def test_the_order_of_the_arguments_of_refused(self):
        error = errors.Refused(3, "CannotStep")
        self.assertEqual((error.index, error.reason), (3, "CannotStep"))

    def test_each_can_be_raised_and_caught_by_its_base(self):
        for name, (base, attributes) in CLASSES.items():
            with self.subTest(name):
                with self.assertRaises(base):
                    raise getattr(errors, name)(*[None, None][:len(attributes)])


if __name__ == "__main__":
    unittest.main()
