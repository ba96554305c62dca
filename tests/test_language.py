"""The rules of LANGUAGE.md that are plain to check: files, imports, sizes, characters, some words."""

import ast
import pathlib
import re
import unittest

PACKAGE = pathlib.Path(__file__).resolve().parent.parent / "movedrows"
FILES = sorted(PACKAGE.rglob("*.py"))
OUTSIDE = {"heapq", "math", "itertools", "collections"}
BARRED_NAMES = {"register", "mro", "elements", "open", "input", "law", "version_info"}
STATEMENTS = (ast.ImportFrom, ast.FunctionDef, ast.ClassDef, ast.Assign)


def is_docstring(node):
    """Return whether a statement is a text alone."""
    return isinstance(node, ast.Expr) and isinstance(node.value, ast.Constant) and isinstance(node.value.value, str)


class Language(unittest.TestCase):
    def test_the_folder_holds_plain_python_files_alone(self):
        self.assertIn(PACKAGE / "__init__.py", FILES)
        for path in PACKAGE.rglob("*"):
            if "__pycache__" not in path.parts:
                with self.subTest(path.name):
                    self.assertRegex(path.name, r"^[a-z0-9_]+\.py$")

    def test_sizes_and_characters(self):
        for path in FILES:
            lines = path.read_text(encoding="utf-8").split("\n")
            with self.subTest(path.name):
                self.assertLessEqual(len(lines), 399)
                for line in lines:
                    self.assertLessEqual(len(line), 120)
                    self.assertRegex(line, r"^[ -~]*$")
                    self.assertEqual(line, line.rstrip())

    def test_functions_are_small(self):
        for path in FILES:
            for node in ast.walk(ast.parse(path.read_text())):
                if isinstance(node, ast.FunctionDef):
                    with self.subTest(file=path.name, function=node.name):
                        self.assertLessEqual(node.end_lineno - node.lineno + 1, 40)

    def test_imports_are_by_full_names(self):
        for path in FILES:
            for node in ast.walk(ast.parse(path.read_text())):
                with self.subTest(path.name):
                    self.assertNotIsInstance(node, ast.Import)
                    if isinstance(node, ast.ImportFrom):
                        self.assertEqual(node.level, 0)
                        self.assertIn(node.module.split(".")[0], OUTSIDE | {"movedrows"})
                        self.assertNotIn("*", [alias.name for alias in node.names])

    def test_module_level_holds_definitions_alone(self):
        for path in FILES:
            for node in ast.parse(path.read_text()).body:
                with self.subTest(file=path.name, line=node.lineno):
                    self.assertTrue(is_docstring(node) or isinstance(node, STATEMENTS))

    def test_barred_names_and_floats(self):
        for path in FILES:
            for node in ast.walk(ast.parse(path.read_text())):
                with self.subTest(file=path.name):
                    for field in ("id", "name", "attr", "arg"):
                        name = getattr(node, field, None)
                        self.assertNotIn(name, BARRED_NAMES)
                        if isinstance(name, str) and not re.match(r"^__[a-z]+__$", name):
                            self.assertNotRegex(name, r"^__")
                    self.assertNotIsInstance(node, ast.Div)
                    self.assertNotIsInstance(getattr(node, "value", None), float)


if __name__ == "__main__":
    unittest.main()
