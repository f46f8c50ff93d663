"""Promise 1 and the interface: what the package defines, imports and calls."""

import ast
import builtins
import importlib
import inspect
import unittest
from pathlib import Path

PACKAGE = Path(__file__).resolve().parent.parent / "ringpost"
FUNCTIONS = {
    "bounds": {
        "need_bounds": ["thing"], "need_ring": ["thing"], "need_texts": ["thing"],
        "least_ring": ["bounds"],
    },
    "breaking": {"breaking": ["bounds", "ring"]},
    "finishing": {"finishing": ["run"]},
    "notes": {"shown": ["step"], "read": ["line"], "played": ["bounds", "ring", "texts", "lines"]},
}
CLASSES = {
    "sides": {
        "Sender": {"__init__": ["window", "ring", "many"], "span": [], "sent": ["k"], "heard": ["number"]},
        "Taker": {"__init__": ["room", "ring"], "came": ["number", "text"], "want": [], "gone": [], "kept": []},
    },
    "posts": {
        "Post": {"__init__": ["bound"], "posted": ["thing"], "there": [], "taken": ["number"]},
    },
    "runs": {
        "Run": {
            "__init__": ["bounds", "ring", "texts"], "do": ["step"], "out": [], "counts": [], "letters": [],
            "answers": [], "wrong": [], "copied": [],
        },
    },
}
BUILTINS = {
    "len", "range", "enumerate", "zip", "min", "max", "sum", "abs", "sorted", "reversed", "int", "str",
    "bool", "list", "tuple", "dict", "set", "isinstance", "ord", "repr", "any", "all", "divmod", "type",
    "ValueError", "KeyError", "IndexError",
}


def files():
    """The files of the package."""
    return sorted(PACKAGE.rglob("*.py"))


def nodes(path, *kinds):
    """All parts of a file that are of these kinds."""
    return [node for node in ast.walk(ast.parse(path.read_text())) if isinstance(node, kinds)]


def names_of(thing):
    """The names of the parameters."""
    return list(inspect.signature(thing).parameters)


def is_plain(value):
    """Whether a value of a module is no list, and no table that holds one."""
    if isinstance(value, dict):
        return all(isinstance(part, str) for part in [*value, *value.values()])
    if isinstance(value, tuple):
        return all(isinstance(part, str) for part in value)
    return isinstance(value, (int, str))


class TestInterface(unittest.TestCase):
    def test_functions(self):
        for module, functions in FUNCTIONS.items():
            for name, parameters in functions.items():
                thing = getattr(importlib.import_module(f"ringpost.{module}"), name)
                with self.subTest(name):
                    self.assertTrue(inspect.isfunction(thing))
                    self.assertEqual(thing.__module__, f"ringpost.{module}")
                    self.assertEqual(names_of(thing), parameters)

    def test_classes(self):
        for module, classes in CLASSES.items():
            for name, methods in classes.items():
                thing = getattr(importlib.import_module(f"ringpost.{module}"), name)
                with self.subTest(name):
                    self.assertTrue(inspect.isclass(thing))
                    self.assertEqual(thing.__module__, f"ringpost.{module}")
                    self.has_methods(thing, methods)

    def has_methods(self, thing, methods):
        for method, parameters in methods.items():
            with self.subTest(method):
                self.assertTrue(inspect.isfunction(vars(thing).get(method)))
                self.assertEqual(names_of(vars(thing)[method]), ["self"] + parameters)


class TestPackage(unittest.TestCase):
    def test_it_holds_nothing_but_its_files(self):
        others = [path for path in PACKAGE.rglob("*")
                  if path.is_file() and path.suffix != ".py" and path.parent.name != "__pycache__"]
        self.assertEqual(others, [])
        self.assertIn(PACKAGE / "__init__.py", files())

    def test_it_imports_only_its_own_and_from_where_it_is_defined(self):
        for path in files():
            for node in nodes(path, ast.Import, ast.ImportFrom):
                with self.subTest(file=path.name, line=node.lineno):
                    self.assertIsInstance(node, ast.ImportFrom)
                    self.assertEqual(node.level, 0)
                    self.assertTrue(node.module.startswith("ringpost."))
                    for alias in node.names:
                        thing = getattr(importlib.import_module(node.module), alias.name)
                        self.assertEqual(thing.__module__, node.module)

    def test_no_clock_no_chance_no_files(self):
        for path in files():
            for node in nodes(path, ast.Name):
                if hasattr(builtins, node.id):
                    with self.subTest(file=path.name, line=node.lineno):
                        self.assertIn(node.id, BUILTINS)

    def test_nothing_is_kept_at_module_level(self):
        plain = (ast.FunctionDef, ast.ClassDef, ast.ImportFrom)
        for path in files():
            for node in ast.parse(path.read_text()).body:
                with self.subTest(file=path.name, line=node.lineno):
                    if not isinstance(node, plain):
                        self.assertTrue(is_plain(ast.literal_eval(node.value)))

    def test_sizes_and_signs(self):
        for path in files():
            text = path.read_text()
            with self.subTest(path.name):
                self.assertLessEqual(len(text.splitlines()), 399)
                self.assertLessEqual(max(len(line) for line in text.splitlines()), 120)
                self.assertEqual([sign for sign in text if not (" " <= sign <= "~" or sign == "\n")], [])
                for node in nodes(path, ast.FunctionDef):
                    self.assertLess(node.end_lineno - node.lineno, 40)

    def test_signs_that_no_string_holds(self):
        for path in files():
            for node in nodes(path, ast.Constant):
                with self.subTest(file=path.name, line=node.lineno):
                    self.assertNotIsInstance(node.value, (float, complex))
                    self.assertNotIn("%", str(node.value))


if __name__ == "__main__":
    unittest.main()
