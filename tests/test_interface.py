import importlib
import inspect
import unittest

# The functions that have landed, under the file that the interface lists them for, with their arguments.
FUNCTIONS = {
    "movedrows.entries": {
        "require_history": ["value"],
        "told_entries": ["place", "later", "stamp"],
        "entries_of": ["history"],
        "is_elder": ["one", "other"],
    },
    "movedrows.rules": {
        "require_rules": ["value"],
        "named_rules": ["word"],
        "relation": ["slot", "entry"],
        "asked_rule": ["held", "entry"],
        "laid": ["rules", "held", "entry"],
        "rules_with": ["rules", "index", "action"],
    },
    "movedrows.ways": {
        "require_way": ["value"],
        "is_way_within": ["way", "other"],
        "lane_of": ["way", "key"],
        "lanes_of": ["way", "history"],
    },
}


class Interface(unittest.TestCase):
    def test_each_function_stands_in_its_file_with_its_arguments(self):
        for module, functions in FUNCTIONS.items():
            for name, arguments in functions.items():
                with self.subTest(module=module, name=name):
                    function = getattr(importlib.import_module(module), name)
                    self.assertEqual(function.__module__, module)
                    self.assertEqual(list(inspect.signature(function).parameters), arguments)


if __name__ == "__main__":
    unittest.main()
