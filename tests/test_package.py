"""The rules of the language that a test can see without much ado."""

import ast
import re
import unittest
from pathlib import Path

PACKAGE = Path(__file__).resolve().parent.parent / "pailchain"
FILES = sorted(PACKAGE.glob("*.py"))
BUILTINS = set(
    "len range enumerate zip min max sum abs sorted reversed int str bool list tuple dict set isinstance ord "
    "repr any all divmod iter next super property staticmethod classmethod Exception ValueError TypeError KeyError "
    "IndexError LookupError ZeroDivisionError ArithmeticError OverflowError RuntimeError NotImplementedError "
    "AttributeError StopIteration NotImplemented".split()
)
BARRED = re.compile(
    r"\b(type|typing|typing_extensions|enum|Enum|IntEnum|StrEnum|Flag|IntFlag|Generic|Protocol|ABC|ABCMeta|"
    r"namedtuple|NamedTuple|TypedDict|TYPE_CHECKING|abstractmethod)\b|dataclass|overload|contextmanager"
)


def bound_names(tree):
    names = set()
    for node in ast.walk(tree):
        if isinstance(node, (ast.FunctionDef, ast.ClassDef)):
            names.add(node.name)
        elif isinstance(node, ast.arg):
            names.add(node.arg)
        elif isinstance(node, ast.alias):
            names.add(node.asname or node.name)
        elif isinstance(node, ast.Name) and not isinstance(node.ctx, ast.Load):
            names.add(node.id)
        elif isinstance(node, ast.ExceptHandler) and node.name:
            names.add(node.name)
    return names


def package_files():
    for path in FILES:
        text = path.read_text("utf-8")
        yield path.name, text, ast.parse(text)


class PackageTest(unittest.TestCase):
    def test_there_are_only_plain_files(self):
        self.assertIn(PACKAGE / "__init__.py", FILES)
        for path in PACKAGE.iterdir():
            if path.name != "__pycache__":
                self.assertRegex(path.name, r"^([a-z][a-z0-9_]*|__init__|__main__)\.py$")

    def test_signs_and_sizes(self):
        for name, text, tree in package_files():
            self.assertTrue(all(sign == "\n" or " " <= sign <= "~" for sign in text), name)
            rows = text.splitlines()
            self.assertLessEqual(len(rows), 400, name)
            self.assertLessEqual(max(len(row) for row in rows), 120, name)
            for node in ast.walk(tree):
                if isinstance(node, ast.FunctionDef):
                    self.assertLessEqual(node.end_lineno - node.lineno + 1, 40, (name, node.name))

    def test_barred_words(self):
        for name, text, tree in package_files():
            self.assertIsNone(BARRED.search(text), name)

    def test_imports_are_of_the_package_by_full_names(self):
        for name, text, tree in package_files():
            for node in ast.walk(tree):
                self.assertNotIsInstance(node, ast.Import, name)
                if isinstance(node, ast.ImportFrom):
                    self.assertEqual(node.level, 0, name)
                    self.assertRegex(node.module, r"^pailchain\.[a-z_]+$", name)
                    self.assertIn(PACKAGE / (node.module.split(".")[1] + ".py"), FILES, name)

    def test_only_allowed_builtins_and_none_renamed(self):
        for name, text, tree in package_files():
            bound = bound_names(tree)
            self.assertEqual(bound & BUILTINS, set(), name)
            read = {node.id for node in ast.walk(tree) if isinstance(node, ast.Name)}
            self.assertLessEqual(read - bound, BUILTINS, name)

    def test_no_float_and_no_percent_sign_in_strings(self):
        for name, text, tree in package_files():
            for node in ast.walk(tree):
                self.assertNotIsInstance(node, ast.Div, name)
                if isinstance(node, ast.Constant):
                    self.assertNotIsInstance(node.value, float, name)
                    if isinstance(node.value, str):
                        self.assertNotIn("%", node.value, name)


if __name__ == "__main__":
    unittest.main()
