"""The rules of the language that a test can see without much ado."""

import ast
import builtins
import re
import unittest
from pathlib import Path

PACKAGE = Path(__file__).resolve().parent.parent / "pailchain"
FILES = sorted(PACKAGE.glob("*.py"))
BUILTINS = set(
    "len range enumerate zip min max sum abs sorted reversed int str bool list tuple dict set isinstance ord "
    "repr any all divmod iter next super property staticmethod classmethod Exception ValueError TypeError KeyError "
    "IndexError LookupError ZeroDivisionError ArithmeticError OverflowError RuntimeError NotImplementedError "
    "AttributeError StopIteration NotImplemented".split()
)
BARRED = re.compile(
    r"\b(type|typing|typing_extensions|enum|Enum|IntEnum|StrEnum|Flag|IntFlag|Generic|Protocol|ABC|ABCMeta|"
    r"namedtuple|NamedTuple|TypedDict|TYPE_CHECKING|abstractmethod)\b|dataclass|overload|contextmanager"
)
# L25, those that the package may call of builtin values.
CALLED = set(
    "append clear copy count endswith extend find get index insert isalnum isalpha isdigit islower isspace isupper "
    "items join keys ljust lower lstrip partition pop remove replace reverse rfind rjust rpartition rsplit rstrip "
    "setdefault split splitlines startswith strip update upper values zfill bit_length "
    "removeprefix removesuffix".split()
)
STATEMENTS = (
    ast.Assign, ast.AugAssign, ast.If, ast.While, ast.For, ast.Return, ast.Break, ast.Continue, ast.Pass, ast.Raise,
    ast.Assert, ast.Delete, ast.Try, ast.Expr, ast.FunctionDef, ast.ClassDef, ast.ImportFrom,
)


def is_plain(node, functions):
    """Whether the module-level expression is a plain value, or a table of plain values and functions."""
    if isinstance(node, (ast.Tuple, ast.List)):
        return all(is_plain(item, functions) for item in node.elts)
    if isinstance(node, ast.Dict):
        return all(is_plain(item, functions) for item in node.keys + node.values)
    return isinstance(node, ast.Constant) or isinstance(node, ast.Name) and node.id in functions


def bound_names(tree):
    names = set()
    for node in ast.walk(tree):
        if isinstance(node, (ast.FunctionDef, ast.ClassDef)):
            names.add(node.name)
        elif isinstance(node, ast.arg):
            names.add(node.arg)
        elif isinstance(node, ast.alias):
            names.add(node.asname or node.name)
        elif isinstance(node, ast.Name) and not isinstance(node.ctx, ast.Load):
            names.add(node.id)
        elif isinstance(node, ast.ExceptHandler) and node.name:
            names.add(node.name)
    return names


def methods_and_attributes(tree):
    """The names of all methods, and of all attributes that are assigned."""
    methods, attributes = set(), set()
    for node in ast.walk(tree):
        if isinstance(node, ast.ClassDef):
            methods.update(item.name for item in node.body if isinstance(item, ast.FunctionDef))
        elif isinstance(node, ast.Attribute) and not isinstance(node.ctx, ast.Load):
            attributes.add(node.attr)
    return methods, attributes


def top_names(tree):
    """The names of a file's imports and classes."""
    names = {node.name for node in tree.body if isinstance(node, ast.ClassDef)}
    for node in tree.body:
        if isinstance(node, ast.ImportFrom):
            names.update(alias.asname or alias.name for alias in node.names)
    return names


def imported(tree):
    return {node.module.split(".")[1] for node in tree.body if isinstance(node, ast.ImportFrom)}


def package_files():
    for path in FILES:
        text = path.read_text("utf-8")
        yield path.name, text, ast.parse(text)


class PackageTest(unittest.TestCase):
    def test_there_are_only_plain_files(self):
        self.assertIn(PACKAGE / "__init__.py", FILES)
        for path in PACKAGE.iterdir():
            if path.name != "__pycache__":
                self.assertRegex(path.name, r"^([a-z][a-z0-9_]*|__init__|__main__)\.py$")

    def test_signs_and_sizes(self):
        for name, text, tree in package_files():
            self.assertTrue(all(sign == "\n" or " " <= sign <= "~" for sign in text), name)
            rows = text.splitlines()
            self.assertLessEqual(len(rows), 400, name)
            self.assertLessEqual(max(len(row) for row in rows), 120, name)
            for node in ast.walk(tree):
                if isinstance(node, ast.FunctionDef):
                    self.assertLessEqual(node.end_lineno - node.lineno + 1, 40, (name, node.name))

    def test_barred_words(self):
        for name, text, tree in package_files():
            self.assertIsNone(BARRED.search(text), name)

    def test_imports_are_of_the_package_by_full_names(self):
        for name, text, tree in package_files():
            for node in ast.walk(tree):
                self.assertNotIsInstance(node, ast.Import, name)
                if isinstance(node, ast.ImportFrom):
                    self.assertEqual(node.level, 0, name)
                    self.assertRegex(node.module, r"^pailchain\.[a-z_]+$", name)
                    self.assertIn(PACKAGE / (node.module.split(".")[1] + ".py"), FILES, name)

    def test_only_allowed_builtins_and_none_renamed(self):
        for name, text, tree in package_files():
            bound = bound_names(tree)
            self.assertEqual(bound & BUILTINS, set(), name)
            read = {node.id for node in ast.walk(tree) if isinstance(node, ast.Name)}
            self.assertLessEqual(read - bound, BUILTINS, name)

    def test_no_two_files_import_from_each_other(self):
        left = {name.split(".")[0]: imported(tree) for name, text, tree in package_files()}
        while left:
            free = [name for name in left if not left[name] & set(left)]
            self.assertTrue(free, left)
            for name in free:
                del left[name]

    def test_imports_name_the_file_that_defines_the_name_and_are_used(self):
        trees = {name.split(".")[0]: tree for name, text, tree in package_files()}
        for name, tree in trees.items():
            read = {node.id for node in ast.walk(tree) if isinstance(node, ast.Name)}
            for node in tree.body:
                if isinstance(node, ast.ImportFrom):
                    other = trees[node.module.split(".")[1]]
                    for alias in node.names:
                        self.assertIn(alias.name, bound_names(other) - top_names(other) | {
                            item.name for item in other.body if isinstance(item, ast.ClassDef)}, name)
                        self.assertIn(alias.name, read, name)

    def test_names_are_plain_and_bound_once(self):
        for name, text, tree in package_files():
            inside = set()
            for node in ast.walk(tree):
                if isinstance(node, ast.FunctionDef):
                    inside.update(item.arg for item in ast.walk(node) if isinstance(item, ast.arg))
                    inside.update(item.id for item in ast.walk(node)
                                  if isinstance(item, ast.Name) and not isinstance(item.ctx, ast.Load))
            self.assertEqual(inside & top_names(tree), set(), name)
            self.assertEqual(inside & set(dir(builtins)), set(), name)
            for each in inside:
                self.assertFalse(each.startswith("_"), (name, each))

    def test_no_name_is_a_method_and_an_attribute(self):
        methods, attributes = set(), set()
        for name, text, tree in package_files():
            found = methods_and_attributes(tree)
            methods |= found[0]
            attributes |= found[1]
        self.assertEqual(methods & attributes, set())

    def test_what_stands_at_module_level(self):
        for name, text, tree in package_files():
            functions = set()
            for node in tree.body:
                if isinstance(node, ast.FunctionDef):
                    functions.add(node.name)
                elif isinstance(node, ast.Assign):
                    self.assertTrue(is_plain(node.value, functions), (name, node.lineno))
                elif isinstance(node, ast.Expr):
                    self.assertIs(node, tree.body[0], name)
                    self.assertIsInstance(node.value, ast.Constant, name)
                else:
                    self.assertIsInstance(node, (ast.ClassDef, ast.ImportFrom), (name, node.lineno))

    def test_statements_and_refusals(self):
        for name, text, tree in package_files():
            for node in ast.walk(tree):
                where = (name, getattr(node, "lineno", 0))
                if isinstance(node, ast.stmt):
                    self.assertIsInstance(node, STATEMENTS, where)
                if isinstance(node, ast.Raise):
                    self.assertIsInstance(node.exc, ast.Call, where)
                    self.assertIsInstance(node.exc.func, ast.Name, where)
                if isinstance(node, ast.Compare):
                    for sign, other in zip(node.ops, node.comparators):
                        if isinstance(sign, (ast.Is, ast.IsNot)):
                            self.assertIsInstance(other, ast.Constant, where)

    def test_methods_that_are_called_and_attributes_that_are_read(self):
        trees = [(name, tree) for name, text, tree in package_files()]
        methods, attributes = set(), set()
        for name, tree in trees:
            found = methods_and_attributes(tree)
            methods |= found[0]
            attributes |= found[1]
        for name, tree in trees:
            called = {id(node.func) for node in ast.walk(tree) if isinstance(node, ast.Call)}
            for node in ast.walk(tree):
                if isinstance(node, ast.Attribute):
                    known = methods | CALLED if id(node) in called else attributes
                    self.assertIn(node.attr, known, (name, node.lineno))

    def test_no_float_and_no_percent_sign_in_strings(self):
        for name, text, tree in package_files():
            for node in ast.walk(tree):
                self.assertNotIsInstance(node, ast.Div, name)
                if isinstance(node, ast.Constant):
                    self.assertNotIsInstance(node.value, float, name)
                    if isinstance(node.value, str):
                        self.assertNotIn("%", node.value, name)


if __name__ == "__main__":
    unittest.main()
