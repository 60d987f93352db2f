"""What ../shared/LANGUAGE.md says of files, sizes, words and imports, as far as it is plain to see."""

import ast
import importlib
import pathlib
import re
import unittest

PACKAGE = pathlib.Path(importlib.import_module("notchsafe").__file__).parent
WORDS = (
    "type", "typing", "typing_extensions", "enum", "Enum", "IntEnum", "StrEnum", "Flag", "IntFlag", "Generic",
    "Protocol", "ABC", "ABCMeta", "namedtuple", "NamedTuple", "TypedDict", "TYPE_CHECKING", "abstractmethod",
)
PARTS = ("dataclass", "overload", "contextmanager")


def files():
    return sorted(PACKAGE.glob("*.py"))


class Language(unittest.TestCase):
    def test_only_files_of_python(self):
        for path in PACKAGE.iterdir():
            if path.name != "__pycache__":
                self.assertRegex(path.name, r"^[a-z0-9_]+\.py$")

    def test_sizes_and_characters(self):
        for path in files():
            text = path.read_text(encoding="utf-8")
            lines = text.splitlines()
            self.assertLessEqual(len(lines), 399, path.name)
            for number, line in enumerate(lines, start=1):
                self.assertLessEqual(len(line), 120, f"{path.name}:{number}")
            self.assertRegex(text, r"\A[ -~\n]*\Z", path.name)

    def test_sizes_of_functions(self):
        for path in files():
            for node in ast.walk(ast.parse(path.read_text(encoding="utf-8"))):
                if isinstance(node, ast.FunctionDef):
                    self.assertLessEqual(node.end_lineno - node.lineno + 1, 40, f"{path.name}: {node.name}")

    def test_words(self):
        for path in files():
            text = path.read_text(encoding="utf-8")
            for word in WORDS:
                self.assertIsNone(re.search(rf"\b{word}\b", text), f"{path.name}: {word}")
            for part in PARTS:
                self.assertNotIn(part, text, path.name)

    def test_imports_name_the_file_that_defines(self):
        for path in files():
            for node in ast.walk(ast.parse(path.read_text(encoding="utf-8"))):
                self.assertNotIsInstance(node, ast.Import, path.name)
                if isinstance(node, ast.ImportFrom):
                    self.assertEqual((node.level, node.module.split(".")[0]), (0, "notchsafe"), path.name)
                    target = PACKAGE / (node.module.split(".")[1] + ".py")
                    body = ast.parse(target.read_text(encoding="utf-8")).body
                    names = [thing.name for thing in body if isinstance(thing, (ast.FunctionDef, ast.ClassDef))]
                    names += [thing.targets[0].id for thing in body if isinstance(thing, ast.Assign)]
                    for alias in node.names:
                        self.assertIn(alias.name, names, f"{path.name}: {alias.name}")


if __name__ == "__main__":
    unittest.main()
