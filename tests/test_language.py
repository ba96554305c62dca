"""The rules of LANGUAGE.md that are plain to check: files, imports, sizes, characters, some words."""

import ast
import builtins
import pathlib
import re
import unittest

PACKAGE = pathlib.Path(__file__).resolve().parent.parent / "movedrows"
FILES = sorted(PACKAGE.rglob("*.py"))
OUTSIDE = {"heapq", "math", "itertools", "collections"}
BARRED_NAMES = {"register", "mro", "elements", "open", "input", "law", "version_info"}
STATEMENTS = (ast.ImportFrom, ast.FunctionDef, ast.ClassDef, ast.Assign)
BUILTINS = set("""
    len range enumerate zip min max sum abs sorted reversed int str bool list tuple dict set isinstance ord repr
    any all divmod Exception ValueError TypeError KeyError IndexError LookupError ZeroDivisionError ArithmeticError
    OverflowError RuntimeError NotImplementedError StopIteration
""".split())
METHODS = set("""
    append clear copy count endswith extend find get index insert isalnum isalpha isdigit islower isspace isupper items
    join keys ljust lower lstrip partition pop remove replace reverse rfind rjust rpartition rsplit rstrip setdefault
    split splitlines startswith strip update upper values zfill bit_length add discard
""".split())
WORDS_NOWHERE = (
    "type", "typing", "typing_extensions", "enum", "Enum", "IntEnum", "StrEnum", "Flag", "IntFlag", "Generic", "Protocol",
    "ABC", "ABCMeta", "namedtuple", "NamedTuple", "TypedDict", "TYPE_CHECKING", "abstractmethod", "dataclass", "overload",
    "contextmanager", "_wall", "_WallAttr")
NAMES_NOWHERE = {
    "attrgetter", "breakpoint", "builtins", "compile", "copyright", "credits", "delattr", "dir", "eval", "exec", "exit", "gc",
    "getattr", "globals", "hasattr", "help", "id", "importlib", "license", "locals", "methodcaller", "os", "quit", "setattr",
    "super", "type", "vars", "sys"}
CLASS_METHODS = {"__init__", "__len__", "__eq__", "__iadd__"}
CATCHABLE = {"CannotStep", "UnknownName", "UnknownWord", "InvalidWay", "InvalidRules", "InvalidWeights", "InvalidOptions",
             "InvalidLog", "InvalidClaim"}


def is_docstring(node):
    """Return whether a statement is a text alone."""
    return isinstance(node, ast.Expr) and isinstance(node.value, ast.Constant) and isinstance(node.value.value, str)


def trees():
    """Return a list of (path, tree) of all files."""
    return [(path, ast.parse(path.read_text())) for path in FILES]


def bound_names(node):
    """Return the set of the names that are bound in a tree, but by imports."""
    names = set()
    for inner in ast.walk(node):
        if isinstance(inner, ast.Name) and not isinstance(inner.ctx, ast.Load):
            names.add(inner.id)
        if isinstance(inner, (ast.FunctionDef, ast.ClassDef)):
            names.add(inner.name)
        if isinstance(inner, ast.arg):
            names.add(inner.arg)
        if isinstance(inner, ast.ExceptHandler) and inner.name:
            names.add(inner.name)
    return names


def imported_names(tree):
    """Return the set of the names that a file imports."""
    imports = [node for node in tree.body if isinstance(node, ast.ImportFrom)]
    return {alias.asname or alias.name for node in imports for alias in node.names}


class Language(unittest.TestCase):
    def test_the_folder_holds_plain_python_files_alone(self):
        self.assertIn(PACKAGE / "__init__.py", FILES)
        for path in PACKAGE.rglob("*"):
            if "__pycache__" not in path.parts:
                with self.subTest(path.name):
                    self.assertRegex(path.name, r"^[a-z0-9_]+\.py$")

    def test_sizes_and_characters(self):
        for path in FILES:
            lines = path.read_text(encoding="utf-8").split("\n")
            with self.subTest(path.name):
                self.assertLessEqual(len(lines), 399)
                for line in lines:
                    self.assertLessEqual(len(line), 120)
                    self.assertRegex(line, r"^[ -~]*$")
                    self.assertEqual(line, line.rstrip())

    def test_functions_are_small(self):
        for path in FILES:
            for node in ast.walk(ast.parse(path.read_text())):
                if isinstance(node, ast.FunctionDef):
                    with self.subTest(file=path.name, function=node.name):
                        self.assertLessEqual(node.end_lineno - node.lineno + 1, 40)

    def test_imports_are_by_full_names(self):
        for path in FILES:
            for node in ast.walk(ast.parse(path.read_text())):
                with self.subTest(path.name):
                    self.assertNotIsInstance(node, ast.Import)
                    if isinstance(node, ast.ImportFrom):
                        self.assertEqual(node.level, 0)
                        self.assertIn(node.module.split(".")[0], OUTSIDE | {"movedrows"})
                        self.assertNotIn("*", [alias.name for alias in node.names])

    def test_module_level_holds_definitions_alone(self):
        for path in FILES:
            for node in ast.parse(path.read_text()).body:
                with self.subTest(file=path.name, line=node.lineno):
                    self.assertTrue(is_docstring(node) or isinstance(node, STATEMENTS))

    def test_barred_names_and_floats(self):
        for path in FILES:
            for node in ast.walk(ast.parse(path.read_text())):
                with self.subTest(file=path.name):
                    for field in ("id", "name", "attr", "arg"):
                        name = getattr(node, field, None)
                        self.assertNotIn(name, BARRED_NAMES)
                        if field != "attr":
                            self.assertNotIn(name, NAMES_NOWHERE)
                        if isinstance(name, str) and not re.match(r"^__[a-z]+__$", name):
                            self.assertNotRegex(name, r"^__")
                    self.assertNotIsInstance(node, ast.Div)
                    self.assertNotIsInstance(getattr(node, "value", None), float)

    def test_builtins(self):
        for path, tree in trees():
            with self.subTest(path.name):
                self.assertEqual(bound_names(tree) & set(dir(builtins)), set())
                used = {node.id for node in ast.walk(tree) if isinstance(node, ast.Name)} - bound_names(tree)
                self.assertEqual((used - imported_names(tree)) & set(dir(builtins)) - BUILTINS, set())
                self.assertEqual(used - imported_names(tree) - set(dir(builtins)), set())

    def test_each_name_is_bound_once(self):
        for path, tree in trees():
            top = [name for node in tree.body for name in (
                [node.name] if isinstance(node, (ast.FunctionDef, ast.ClassDef)) else
                [alias.name for alias in node.names] if isinstance(node, ast.ImportFrom) else
                [target.id for target in node.targets] if isinstance(node, ast.Assign) else [])]
            with self.subTest(path.name):
                self.assertEqual(sorted(top), sorted(set(top)))
            classes = {node.name for node in tree.body if isinstance(node, ast.ClassDef)}
            for node in ast.walk(tree):
                if isinstance(node, ast.FunctionDef):
                    with self.subTest(file=path.name, function=node.name):
                        local = bound_names(node) - {node.name}
                        self.assertEqual(local & (classes | imported_names(tree)), set())

    def test_imports_are_used_and_come_from_where_they_are_defined(self):
        for path, tree in trees():
            used = {node.id for node in ast.walk(tree) if isinstance(node, ast.Name)}
            with self.subTest(path.name):
                self.assertEqual(imported_names(tree) - used, set())
            for node in tree.body:
                if isinstance(node, ast.ImportFrom) and node.module.startswith("movedrows."):
                    there = ast.parse((PACKAGE / (node.module.split(".")[1] + ".py")).read_text())
                    with self.subTest(file=path.name, module=node.module):
                        self.assertEqual({alias.name for alias in node.names} - bound_names(there), set())

    def test_no_file_imports_itself_through_others(self):
        imported = {}
        for path, tree in trees():
            modules = [node.module for node in tree.body if isinstance(node, ast.ImportFrom)]
            imported[path.stem] = {module.split(".")[1] for module in modules if module.startswith("movedrows.")}
        while imported:
            free = [name for name, needed in imported.items() if not needed & set(imported)]
            self.assertTrue(free, imported)
            imported = {name: needed for name, needed in imported.items() if name not in free}

    def test_methods_of_builtin_values(self):
        for path, tree in trees():
            own = {node.name for node in ast.walk(tree) if isinstance(node, ast.FunctionDef)}
            for node in ast.walk(tree):
                if isinstance(node, ast.Call) and isinstance(node.func, ast.Attribute):
                    with self.subTest(file=path.name, line=node.lineno):
                        self.assertIn(node.func.attr, METHODS | own)

    def test_sets_are_sorted_or_measured_at_once(self):
        for path, tree in trees():
            at_once = [node.args[0] for node in ast.walk(tree) if isinstance(node, ast.Call)
                       and isinstance(node.func, ast.Name) and node.func.id in ("sorted", "len")]
            for node in ast.walk(tree):
                if isinstance(node, (ast.Set, ast.SetComp)):
                    with self.subTest(file=path.name, line=node.lineno):
                        self.assertIn(node, at_once)

    def test_what_a_class_with_operators_leaves_no_room_for(self):
        # House has += and ==: so the package itself has no augmented assignment and no generator expression.
        for path, tree in trees():
            for node in ast.walk(tree):
                with self.subTest(file=path.name, line=getattr(node, "lineno", 0)):
                    self.assertNotIsInstance(node, (ast.AugAssign, ast.GeneratorExp, ast.Global, ast.Nonlocal, ast.Match))
                    self.assertNotIsInstance(node, (ast.AnnAssign, ast.NamedExpr, ast.JoinedStr, ast.With, ast.AsyncFor))

    def test_methods_of_classes(self):
        for path, tree in trees():
            for node in ast.walk(tree):
                if isinstance(node, ast.ClassDef):
                    methods = [inner for inner in node.body if isinstance(inner, ast.FunctionDef)]
                    names = [method.name for method in methods]
                    attributes = {inner.attr for inner in ast.walk(node) if isinstance(inner, ast.Attribute)
                                  and isinstance(inner.ctx, ast.Store)}
                    with self.subTest(file=path.name, name=node.name):
                        self.assertEqual(len(names), len(set(names)))
                        self.assertEqual({name for name in names if name.startswith("__")} - CLASS_METHODS, set())
                        self.assertEqual(attributes & (set(names) | METHODS - {"count", "index", "find", "get"}), set())
                        self.assertEqual(node.decorator_list, [])
                    for method in methods:
                        if method.name in ("__len__", "__eq__"):
                            stores = [inner for inner in ast.walk(method) if isinstance(inner, (ast.Assign, ast.Delete))]
                            self.assertEqual(stores, [])
                        if method.name == "__iadd__":
                            self.assertEqual([argument.arg for argument in method.args.args], ["self", "other"])

    def test_errors_that_are_caught(self):
        for path, tree in trees():
            for node in ast.walk(tree):
                if isinstance(node, ast.ExceptHandler):
                    caught = node.type.elts if isinstance(node.type, ast.Tuple) else [node.type]
                    with self.subTest(file=path.name, line=node.lineno):
                        self.assertLessEqual({name.id for name in caught}, CATCHABLE)

    def test_is_stands_beside_none_alone(self):
        for path, tree in trees():
            for node in ast.walk(tree):
                if isinstance(node, ast.Compare) and isinstance(node.ops[0], (ast.Is, ast.IsNot)):
                    with self.subTest(file=path.name, line=node.lineno):
                        self.assertEqual(ast.dump(node.comparators[0]), ast.dump(ast.Constant(None)))

    def test_strings(self):
        for path, tree in trees():
            docs = {ast.get_docstring(node, clean=False) for node in ast.walk(tree)
                    if isinstance(node, (ast.Module, ast.ClassDef, ast.FunctionDef))}
            for node in ast.walk(tree):
                if isinstance(node, ast.Constant) and isinstance(node.value, str) and node.value not in docs:
                    with self.subTest(file=path.name, line=node.lineno):
                        self.assertNotRegex(node.value, r"[%{}\\\r\t]|__|\._$")

    def test_defaults_are_plain_names_or_literals(self):
        for path, tree in trees():
            for node in ast.walk(tree):
                if isinstance(node, (ast.FunctionDef, ast.Lambda)):
                    defaults = node.args.defaults + [each for each in node.args.kw_defaults if each is not None]
                    with self.subTest(file=path.name, line=node.lineno):
                        for default in defaults:
                            self.assertIsInstance(default, (ast.Constant, ast.Name))
                        if isinstance(node, ast.Lambda):
                            self.assertEqual(defaults, [])

    def test_module_level_tables_hold_no_lists_and_no_dicts(self):
        for path, tree in trees():
            for node in tree.body:
                if isinstance(node, ast.Assign):
                    inner = [each for each in ast.walk(node.value) if each is not node.value]
                    with self.subTest(file=path.name, line=node.lineno):
                        for each in inner:
                            self.assertNotIsInstance(each, (ast.List, ast.Dict, ast.Set, ast.Call, ast.ListComp))

    def test_words_that_do_not_occur(self):
        for path in FILES:
            for word in WORDS_NOWHERE:
                with self.subTest(file=path.name, word=word):
                    self.assertNotRegex(path.read_text(), rf"\b{word}\b")


if __name__ == "__main__":
    unittest.main()
