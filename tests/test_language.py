"""The rules of LANGUAGE.md that can be read off a file: signs, sizes, words, imports, forms."""

import ast
import builtins
import pathlib
import re
import unittest

PACKAGE = pathlib.Path(__file__).resolve().parent.parent / "mergetree"

OWN_NAMES = set("""
    len range enumerate zip min max sum abs sorted reversed int str bool bytes list tuple dict set
    frozenset isinstance ord repr any all divmod Exception ValueError TypeError KeyError IndexError
    LookupError ZeroDivisionError ArithmeticError OverflowError RuntimeError NotImplementedError
    AttributeError StopIteration""".split())

OWN_METHODS = {"__init__", "__eq__", "__repr__", "__str__", "__len__"}

NO_WORDS = re.compile(
    r"\b(type|typing|typing_extensions|enum|Enum|IntEnum|StrEnum|Flag|IntFlag|Generic|Protocol|ABC|ABCMeta"
    r"|namedtuple|NamedTuple|TypedDict|TYPE_CHECKING|abstractmethod)\b|dataclass|overload|contextmanager")

NO_FORMS = (
    ast.With, ast.Match, ast.Global, ast.Nonlocal, ast.Yield, ast.YieldFrom, ast.AsyncFunctionDef,
    ast.AsyncFor, ast.AsyncWith, ast.Await, ast.GeneratorExp, ast.NamedExpr, ast.Div, ast.MatMult,
    ast.Import)


VALUE_NAMES = {"count", "index", "title", "find", "get", "join", "lower", "upper", "split", "strip", "copy", "add"}


def files():
    """Each file of the package with its text and its tree."""
    for path in sorted(PACKAGE.glob("*.py")):
        text = path.read_text(encoding="utf-8")
        yield path, text, ast.parse(text)


def names_of(tree):
    """All names that a file reads or gives."""
    for node in ast.walk(tree):
        if isinstance(node, ast.Name):
            yield node.id
        elif isinstance(node, ast.Attribute):
            yield node.attr
        elif isinstance(node, ast.arg):
            yield node.arg
        elif isinstance(node, (ast.FunctionDef, ast.ClassDef)):
            yield node.name


class LanguageTest(unittest.TestCase):
    def test_nothing_but_plain_files_in_the_package(self):
        for path in PACKAGE.iterdir():
            if path.name != "__pycache__":
                self.assertTrue(path.is_file(), path)
                self.assertRegex(path.name, r"\A(__init__|__main__|[a-z][a-z0-9_]*)\.py\Z")

    def test_signs_and_words(self):
        for path, text, tree in files():
            self.assertRegex(text, r"\A[ -~\n]*\Z", path)
            self.assertIsNone(NO_WORDS.search(text), path)

    def test_sizes(self):
        for path, text, tree in files():
            rows = text.split("\n")
            self.assertLessEqual(len(rows), 401, path)
            self.assertLessEqual(max(len(row) for row in rows), 120, path)
            for node in ast.walk(tree):
                if isinstance(node, ast.FunctionDef):
                    self.assertLessEqual(node.end_lineno - node.lineno + 1, 40, (path, node.name))

    def test_imports_from_the_very_file(self):
        for path, text, tree in files():
            for node in ast.walk(tree):
                if isinstance(node, ast.ImportFrom):
                    self.assertIn(node, tree.body, path)
                    self.assertEqual(node.level, 0, path)
                    self.assertRegex(node.module, r"\Amergetree\.[a-z0-9_]+\Z", path)
                    drawn = ast.parse((PACKAGE / (node.module.split(".")[1] + ".py")).read_text(encoding="utf-8"))
                    given = [each.name for each in drawn.body if isinstance(each, (ast.FunctionDef, ast.ClassDef))]
                    given += [name.id for each in drawn.body if isinstance(each, ast.Assign) for name in each.targets]
                    for name in node.names:
                        self.assertIn(name.name, given, path)

    def test_forms(self):
        for path, text, tree in files():
            for node in ast.walk(tree):
                self.assertNotIsInstance(node, NO_FORMS, (path, getattr(node, "lineno", None)))
                if isinstance(node, (ast.FunctionDef, ast.ClassDef)):
                    self.assertEqual(node.decorator_list, [], path)
                if isinstance(node, ast.Constant):
                    self.assertNotIsInstance(node.value, (float, complex), path)
                if isinstance(node, (ast.For, ast.While)):
                    self.assertEqual(node.orelse, [], path)

    def test_names(self):
        others = set(dir(builtins)) - OWN_NAMES
        for path, text, tree in files():
            for name in names_of(tree):
                self.assertTrue(name in OWN_METHODS or re.fullmatch("[A-Za-z][A-Za-z0-9_]*", name), (path, name))
            for node in ast.walk(tree):
                if isinstance(node, ast.Name):
                    self.assertNotIn(node.id, others, path)

    def test_own_methods_and_values(self):
        python_has = {name for kind in (str, int, list, tuple, dict, set, bytes) for name in dir(kind)}
        methods, values = set(), set()
        for path, text, tree in files():
            for node in ast.walk(tree):
                if isinstance(node, ast.ClassDef):
                    methods |= {each.name for each in node.body if isinstance(each, ast.FunctionDef)} - OWN_METHODS
                if isinstance(node, ast.Attribute) and isinstance(node.ctx, ast.Store):
                    values.add(node.attr)
        self.assertEqual(methods & values, set())
        self.assertEqual((values & python_has) - VALUE_NAMES, set())
        self.assertEqual(methods & python_has, set())

    def test_locals_are_called_like_no_import_and_no_class(self):
        for path, text, tree in files():
            taken = {name.name for each in tree.body if isinstance(each, ast.ImportFrom) for name in each.names}
            taken |= {each.name for each in tree.body if isinstance(each, ast.ClassDef)} | set(dir(builtins))
            for node in ast.walk(tree):
                if isinstance(node, ast.Name) and isinstance(node.ctx, ast.Store):
                    self.assertNotIn(node.id, taken, path)
                if isinstance(node, ast.arg):
                    self.assertNotIn(node.arg, taken, path)

    def test_no_two_files_draw_from_one_another(self):
        draws = {path.stem: {each.module.split(".")[1] for each in tree.body if isinstance(each, ast.ImportFrom)}
                 for path, text, tree in files()}
        while draws:
            free = [name for name, drawn in draws.items() if not drawn & set(draws)]
            self.assertNotEqual(free, [], draws)
            for name in free:
                del draws[name]


if __name__ == "__main__":
    unittest.main()
