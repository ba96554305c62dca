import importlib
import inspect
import pathlib
import re
import unittest

# The functions that have landed, under the file that the interface lists them for, with their arguments.
FUNCTIONS = {
    "movedrows.entries": {
        "require_history": ["value"],
        "told_entries": ["place", "later", "stamp"],
        "entries_of": ["history"],
        "is_elder": ["one", "other"],
    },
    "movedrows.rules": {
        "require_rules": ["value"],
        "named_rules": ["word"],
        "relation": ["slot", "entry"],
        "asked_rule": ["held", "entry"],
        "laid": ["rules", "held", "entry"],
        "rules_with": ["rules", "index", "action"],
    },
    "movedrows.ways": {
        "require_way": ["value"],
        "is_way_within": ["way", "other"],
        "lane_of": ["way", "key"],
        "lanes_of": ["way", "history"],
    },
    "movedrows.standings": {
        "first_standing": ["way"],
        "ranked": ["standing"],
        "shown_rows": ["standing"],
        "showing": ["standing"],
        "is_true": ["standing"],
        "is_quiet": ["standing"],
    },
    "movedrows.steps": {
        "steps_from": ["way", "standing"],
        "behind_step": ["way", "rules", "standing", "step"],
    },
    "movedrows.weavings": {
        "walked": ["way", "rules", "weaving"],
        "log_of": ["way", "rules", "weaving"],
        "history_of": ["weaving"],
    },
    "movedrows.reach": {
        "standings": ["way", "rules", "limit"],
        "least_steps": ["way", "rules", "limit"],
        "weaving_to": ["way", "rules", "standing", "limit"],
    },
    "movedrows.wishes": {
        "remembered": ["word", "ahead", "standing"],
        "is_broken": ["word", "standing"],
        "standings_for": ["way", "rules", "word", "limit"],
        "keeps": ["way", "rules", "word", "limit"],
        "breaking": ["way", "rules", "word", "limit"],
    },
    "movedrows.alike": {
        "double_standings": ["way", "rules", "others", "limit"],
        "are_alike": ["way", "rules", "others", "limit"],
        "parting": ["way", "rules", "others", "limit"],
    },
    "movedrows.asked": {
        "asked_rules": ["way", "rules", "limit"],
        "asking": ["way", "rules", "index", "limit"],
    },
    "movedrows.back": {
        "require_weights": ["value"],
        "is_right": ["standing"],
        "readers_steps": ["way", "standing"],
        "way_back_of": ["way", "rules", "weights", "standing", "limit"],
        "back_from": ["way", "rules", "weights", "standing", "limit"],
        "farthest": ["way", "rules", "weights", "limit"],
    },
    "movedrows.lags": {
        "least_lag": ["way", "rules", "word", "limit"],
        "least_marks": ["way", "rules", "word", "limit"],
        "least_wipe": ["way", "rules", "word", "limit"],
    },
    "movedrows.mends": {
        "require_options": ["value"],
        "choices": ["options"],
        "with_choice": ["way", "rules", "options", "choice"],
        "cheapest_mend": ["way", "rules", "wishes", "options", "limit"],
    },
    "movedrows.logs": {
        "require_log": ["value"],
        "traces": ["way", "rules", "log", "limit"],
        "explained": ["way", "rules", "log", "limit"],
    },
    "movedrows.trials": {
        "open_index": ["way", "table", "limit"],
        "breaking_by": ["way", "table", "word", "limit"],
        "first_table": ["way", "wishes", "limit", "tables"],
    },
    "movedrows.claims": {
        "require_claim": ["claim"],
        "decide": ["claim", "limit", "tables"],
    },
    "movedrows.checker": {
        "first_fault": ["certificate"],
    },
    "movedrows.texts": {
        "format_way": ["way"],
        "format_rules": ["rules"],
        "format_weaving": ["weaving"],
        "parse_way": ["text"],
        "parse_rules": ["text"],
        "parse_weaving": ["text"],
    },
}

# The methods of the class House with their arguments.
METHODS = {
    "change": ["name", "place"], "take": ["lane"], "slip": ["lane"], "mark": ["lane"], "fall": ["lane"],
    "press": ["lane", "index"], "wipe": ["lane", "index"], "picture": [], "look": ["name", "key"], "end": [],
    "peek": ["name", "key"], "deeds": [], "shows": ["name"], "place_of": ["name"], "weaving_of": ["name"],
    "standing_of": ["name"], "lane": ["lane"], "table": [], "truth": [], "asked": [], "broken": ["word"],
    "paper_of": ["name", "word"], "twin": [], "undo": [],
}

# The arguments that are passed by keyword alone, and what they are when they are left out.
DEFAULTS = {"limit": 2000, "tables": 200}


class Interface(unittest.TestCase):
    def test_each_function_stands_in_its_file_with_its_arguments(self):
        for module, functions in FUNCTIONS.items():
            for name, arguments in functions.items():
                with self.subTest(module=module, name=name):
                    function = getattr(importlib.import_module(module), name)
                    self.assertEqual(function.__module__, module)
                    parameters = inspect.signature(function).parameters
                    self.assertEqual(list(parameters), arguments)
                    for argument, parameter in parameters.items():
                        if argument in DEFAULTS:
                            self.assertEqual(parameter.kind, parameter.KEYWORD_ONLY)
                            self.assertEqual(parameter.default, DEFAULTS[argument])
                        else:
                            self.assertEqual(parameter.kind, parameter.POSITIONAL_OR_KEYWORD)
                            self.assertIs(parameter.default, parameter.empty)

    def test_house_stands_in_its_file_and_has_its_methods_itself(self):
        house = importlib.import_module("movedrows.house").House
        self.assertEqual(house.__module__, "movedrows.house")
        self.assertEqual(list(inspect.signature(house).parameters), ["way", "rules", "names"])
        for name, arguments in METHODS.items():
            with self.subTest(name=name):
                parameters = inspect.signature(vars(house)[name]).parameters
                self.assertEqual(list(parameters)[1:], arguments)
                for parameter in parameters.values():
                    self.assertEqual(parameter.kind, parameter.POSITIONAL_OR_KEYWORD)
                    self.assertIs(parameter.default, parameter.empty)
        for name in ("__len__", "__eq__", "__iadd__"):
            self.assertIn(name, vars(house))

    def test_all_the_names_of_the_document(self):
        """Where the document is at hand, each name that its interface lists for a file is here."""
        document = pathlib.Path(__file__).resolve().parent.parent.parent / "shared" / "DOC.md"
        if not document.exists():
            self.skipTest("the document is not at hand")
        text = document.read_text().split("# The interface")[1]
        names = set(re.findall(r"`([a-z_]+)\(", text)) - set(METHODS)
        known = {name for functions in FUNCTIONS.values() for name in functions}
        self.assertEqual(names - known, set())


if __name__ == "__main__":
    unittest.main()
