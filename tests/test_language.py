"""Those rules of the language that can be seen in the text of a file or in its tree."""

import ast
import builtins
import pathlib
import re
import unittest

FOLDER = pathlib.Path(__file__).resolve().parent.parent / "roadsay"
FILES = sorted(FOLDER.glob("*.py"))

BARRED_WORDS = re.compile(
    r"\b(type|typing|typing_extensions|enum|Enum|IntEnum|StrEnum|Flag|IntFlag|Generic|Protocol|ABC|ABCMeta|namedtuple"
    r"|NamedTuple|TypedDict|TYPE_CHECKING|abstractmethod)\b|dataclass|overload|contextmanager")
BARRED_NODES = (ast.Global, ast.AsyncFunctionDef, ast.AsyncFor, ast.AsyncWith, ast.Await, ast.Import, ast.Div)
BUILTINS = set("""len range enumerate zip min max sum abs sorted reversed int str bool bytes list tuple dict set
frozenset isinstance ord repr any all divmod iter next Exception ValueError TypeError KeyError IndexError LookupError
ZeroDivisionError ArithmeticError OverflowError RuntimeError NotImplementedError AttributeError StopIteration
NotImplemented""".split())

METHODS = set("""append clear copy count endswith extend find get index insert isalnum isalpha isdigit islower isspace
isupper items join keys ljust lower lstrip partition pop remove replace reverse rfind rjust rpartition rsplit rstrip
setdefault split splitlines startswith strip update upper values zfill bit_length""".split())
# What is gone through at once and kept under no name.
AT_ONCE = {"zip", "enumerate", "reversed", "range", "items", "keys", "values"}


def tree_of(path):
    return ast.parse(path.read_text())


def bound_names(tree):
    for node in ast.walk(tree):
        if isinstance(node, ast.Name) and not isinstance(node.ctx, ast.Load):
            yield node.id
        elif isinstance(node, ast.arg):
            yield node.arg
        elif isinstance(node, (ast.FunctionDef, ast.ClassDef)):
            yield node.name
        elif isinstance(node, ast.alias):
            yield node.asname or node.name


class LanguageTest(unittest.TestCase):
    def test_the_folder_has_plain_files_only(self):
        found = [path for path in FOLDER.iterdir() if path.name != "__pycache__"]
        self.assertEqual(sorted(found), FILES)
        self.assertIn(FOLDER / "__init__.py", FILES)
        for path in FILES:
            self.assertRegex(path.name, r"^(__init__|[a-z][a-z0-9_]*)\.py$")

    def test_characters_and_words(self):
        for path in FILES:
            text = path.read_text()
            self.assertRegex(text, r"\A[\n -~]*\Z", path.name)
            self.assertIsNone(BARRED_WORDS.search(text), path.name)

    def test_sizes(self):
        for path in FILES:
            lines = path.read_text().split("\n")
            self.assertLessEqual(len(lines), 400, path.name)
            self.assertLessEqual(max(len(line) for line in lines), 120, path.name)
            for node in ast.walk(tree_of(path)):
                if isinstance(node, ast.FunctionDef):
                    self.assertLessEqual(node.end_lineno - node.lineno + 1, 40, (path.name, node.name))

    def test_imports_are_of_the_package(self):
        for path in FILES:
            for node in ast.walk(tree_of(path)):
                self.assertNotIsInstance(node, BARRED_NODES, path.name)
                if isinstance(node, ast.ImportFrom):
                    self.assertEqual(node.level, 0, path.name)
                    self.assertRegex(node.module, r"^roadsay\.[a-z]+$", path.name)
                    self.assertTrue((FOLDER / (node.module.split(".")[1] + ".py")).exists(), node.module)

    def test_no_floats_and_no_percent_signs(self):
        for path in FILES:
            for node in ast.walk(tree_of(path)):
                if isinstance(node, ast.Constant):
                    self.assertNotIsInstance(node.value, (float, complex), path.name)
                    if isinstance(node.value, str):
                        self.assertNotIn("%", node.value, path.name)

    def test_is_only_with_none_true_and_false(self):
        for path in FILES:
            for node in ast.walk(tree_of(path)):
                if isinstance(node, ast.Compare) and any(isinstance(sign, (ast.Is, ast.IsNot)) for sign in node.ops):
                    beside = node.comparators[-1]
                    self.assertTrue(isinstance(beside, ast.Constant) and beside.value in (None, True, False), path.name)

    def test_names(self):
        for path in FILES:
            tree = tree_of(path)
            names = list(bound_names(tree))
            for name in names:
                self.assertRegex(name, r"^([A-Za-z][A-Za-z0-9_]*|__[a-z]+__)$", path.name)
                self.assertFalse(name in dir(builtins) or name in BUILTINS, (path.name, name))
            for node in ast.walk(tree):
                if isinstance(node, ast.Name) and isinstance(node.ctx, ast.Load):
                    self.assertTrue(node.id in names or node.id in BUILTINS, (path.name, node.id))

    def test_methods(self):
        own = {node.name for path in FILES for node in ast.walk(tree_of(path)) if isinstance(node, ast.FunctionDef)}
        for path in FILES:
            for node in ast.walk(tree_of(path)):
                if isinstance(node, ast.Call) and isinstance(node.func, ast.Attribute):
                    name = node.func.attr
                    self.assertTrue(name in METHODS | own | {"add", "discard"}, (path.name, name))

    def test_what_is_gone_through_at_once_is_not_kept(self):
        for path in FILES:
            for node in ast.walk(tree_of(path)):
                if isinstance(node, (ast.Assign, ast.Return)) and isinstance(node.value, ast.Call):
                    called = node.value.func
                    name = called.attr if isinstance(called, ast.Attribute) else getattr(called, "id", None)
                    self.assertNotIn(name, AT_ONCE, path.name)

    def test_no_name_of_an_import_or_a_class_is_given_again(self):
        for path in FILES:
            tree = tree_of(path)
            names = list(bound_names(tree))
            for node in ast.walk(tree):
                for name in [alias.name for alias in getattr(node, "names", [])] if hasattr(node, "module") else []:
                    self.assertEqual(names.count(name), 1, (path.name, name))
                if isinstance(node, ast.ClassDef):
                    self.assertEqual(names.count(node.name), 1, (path.name, node.name))

    def test_no_two_files_import_from_each_other(self):
        above = {path.stem: {node.module.split(".")[1] for node in ast.walk(tree_of(path))
                             if isinstance(node, ast.ImportFrom)} for path in FILES}
        left = set(above)
        while left:
            lowest = {name for name in left if not above[name] & left}
            self.assertTrue(lowest, left)
            left -= lowest


if __name__ == "__main__":
    unittest.main()
