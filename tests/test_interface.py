"""The names, parameters and places of what the interface of the document lists."""

import ast
import importlib
import inspect
import pathlib
import unittest

PACKAGE = pathlib.Path(importlib.import_module("notchsafe").__file__).parent

FUNCTIONS = {
    "frauds": {
        "frauds": ["book", "way"], "is_safe": ["book", "way"], "raised": ["book", "way"],
        "origins": ["book", "stick", "way"], "told_sums": ["book", "stick", "way"],
    },
    "parts": {
        "height": ["book"], "longest_row": ["book"], "safe_parts": ["book"], "fewest_rows": ["book"],
        "greatest_safe": ["book"], "shows": ["book", "value"],
    },
    "middles": {
        "widest": ["length"], "middle": ["length"], "all_chains": ["length"], "chains_hold": ["length", "value"],
    },
    "numbers": {"how_many": ["length", "notched"], "stick_at": ["length", "notched", "at"], "number_of": ["stick"]},
    "checks": {
        "check_size": ["length"], "checked": ["stick"], "is_checked": ["length", "value"], "fewest_checks": ["book"],
        "with_checks": ["book"],
    },
    "comparing": {"alike": ["p", "q"], "turning": ["p", "q"], "needless": ["book"]},
}
ERRORS = {
    "StickError": None, "InvalidStick": None, "InvalidCommand": None, "InvalidWay": ["word"], "InvalidBook": ["at"],
    "InvalidText": ["at"], "InvalidRule": ["at"], "NoSum": ["value"], "NoStick": ["at"], "NoPlace": ["at"],
    "Refused": ["at"],
}
CLASSES = {
    "ways": {"Way": {
        "__init__": ["self", "how", "most", "part"], "can": ["self", "one", "other"], "__eq__": None, "__str__": None,
    }},
    "books": {"Book": {
        "__init__": ["self", "entries"], "stick_of": ["self", "value"], "sum_of": ["self", "value"],
        "without": ["self", "value"], "shortened": ["self", "at"], "__len__": None, "__add__": None, "__eq__": None,
        "__str__": None,
    }},
    "checkrules": {"CheckRule": {
        "__init__": ["self", "checks"], "put": ["self", "stick"], "is_safe": ["self", "length", "most"],
        "always_safe": ["self", "most"], "first_unsafe": ["self", "most"], "fraud": ["self", "length", "most"],
        "__eq__": None, "__str__": None,
    }},
    "ledger": {"Ledger": {
        "__init__": ["self", "book"], "write": ["self", "value"], "notch": ["self", "at", "place"],
        "several": ["self", "values"], "undo": ["self"], "trial": ["self"], "within": ["self", "work"], "__len__": None,
    }},
    "desk": {"Desk": {"__init__": ["self"], "say": ["self", "command"], "__len__": None}},
}


def defined(name, kind):
    """The names that the file of a module itself defines."""
    tree = ast.parse((PACKAGE / (name + ".py")).read_text(encoding="utf-8"))
    return [node.name for node in tree.body if isinstance(node, kind)]


def module(name):
    return importlib.import_module("notchsafe." + name)


class Interface(unittest.TestCase):
    def test_functions(self):
        for name, functions in FUNCTIONS.items():
            for function, parameters in functions.items():
                with self.subTest(function):
                    self.assertIn(function, defined(name, ast.FunctionDef))
                    self.assertEqual(list(inspect.signature(getattr(module(name), function)).parameters), parameters)

    def test_classes(self):
        for name, classes in CLASSES.items():
            for owner, methods in classes.items():
                self.assertIn(owner, defined(name, ast.ClassDef))
                body = vars(getattr(module(name), owner))
                for method, parameters in methods.items():
                    with self.subTest(owner, method=method):
                        self.assertIn(method, body)
                        if parameters is not None:
                            self.assertEqual(list(inspect.signature(body[method]).parameters), parameters)

    def test_defaults(self):
        way = inspect.signature(module("ways").Way.__init__).parameters
        self.assertEqual([way[name].default for name in ("how", "most", "part")], ["add", None, None])
        self.assertEqual(inspect.signature(module("books").Book.__init__).parameters["entries"].default, ())

    def test_read_is_a_class_method(self):
        read = vars(module("books").Book)["read"]
        self.assertIsInstance(read, classmethod)
        self.assertEqual(list(inspect.signature(module("books").Book.read).parameters), ["text"])

    def test_errors(self):
        for name, parameters in ERRORS.items():
            with self.subTest(name):
                self.assertIn(name, defined("errors", ast.ClassDef))
                if parameters is not None:
                    found = list(inspect.signature(getattr(module("errors"), name).__init__).parameters)
                    self.assertEqual(found, ["self", *parameters])

    def test_attributes_are_set_when_the_object_is_made(self):
        self.assertLessEqual({"how", "most", "part"}, set(dir(module("ways").Way())))
        self.assertLessEqual({"entries", "length"}, set(dir(module("books").Book())))
        self.assertLessEqual({"checks"}, set(vars(module("checkrules").CheckRule(["x"]))))
        self.assertLessEqual({"book", "sticks", "sums", "totals"}, set(vars(module("ledger").Ledger(module("books").Book()))))

    def test_package_file_is_empty_but_for_a_docstring(self):
        tree = ast.parse((PACKAGE / "__init__.py").read_text(encoding="utf-8"))
        self.assertEqual(len(tree.body), 1)
        self.assertIsNotNone(ast.get_docstring(tree))


if __name__ == "__main__":
    unittest.main()
