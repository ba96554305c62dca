"""The examples of README.md."""

import doctest
import pathlib
import unittest

README = pathlib.Path(__file__).resolve().parent.parent / "README.md"


class Readme(unittest.TestCase):
    def test_the_examples(self):
        results = doctest.testfile(str(README), module_relative=False)
        self.assertGreater(results.attempted, 5)
        self.assertEqual(results.failed, 0)


if __name__ == "__main__":
    unittest.main()
