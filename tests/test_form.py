"""The form of the package's files: those rules of LANGUAGE.md that can be read off plainly."""

import ast
import builtins
import re
import unittest
from pathlib import Path

PACKAGE = Path(__file__).resolve().parent.parent / "bouncewise"

STATEMENTS = (
    ast.Assign, ast.AugAssign, ast.If, ast.While, ast.For, ast.Return, ast.Break, ast.Continue, ast.Pass,
    ast.Raise, ast.Try, ast.Expr, ast.FunctionDef, ast.ClassDef, ast.ImportFrom,
)
NOT_USED = (
    ast.Div, ast.MatMult, ast.SetComp, ast.DictComp, ast.GeneratorExp, ast.NamedExpr, ast.Starred,
    ast.Await, ast.Yield, ast.YieldFrom, ast.AnnAssign,
)
OWN_NAMES = set(
    "len range enumerate zip min max sum abs sorted reversed int str bool list tuple dict set frozenset "
    "isinstance ord repr any all divmod Exception ValueError TypeError KeyError IndexError LookupError "
    "ZeroDivisionError ArithmeticError OverflowError RuntimeError NotImplementedError AttributeError "
    "StopIteration".split()
)
METHODS_WITH_TWO_UNDERSCORES = {"__init__", "__eq__", "__repr__", "__str__", "__len__"}
WORDS_NOT_USED = re.compile(
    r"\b(type|typing|typing_extensions|enum|Enum|IntEnum|StrEnum|Flag|IntFlag|Generic|Protocol|ABC|ABCMeta"
    r"|namedtuple|NamedTuple|TypedDict|TYPE_CHECKING|abstractmethod)\b|dataclass|overload|contextmanager"
)


def files():
    return sorted(path for path in PACKAGE.rglob("*") if path.is_file() and "__pycache__" not in path.parts)


def trees():
    return [(path.name, ast.parse(path.read_text(encoding="ascii"))) for path in files()]


def functions(tree):
    return [node for node in ast.walk(tree) if isinstance(node, ast.FunctionDef)]


def names_bound(tree):
    bound = [node.id for node in ast.walk(tree) if isinstance(node, ast.Name) and isinstance(node.ctx, ast.Store)]
    bound += [node.arg for node in ast.walk(tree) if isinstance(node, ast.arg)]
    return bound + [node.name for node in ast.walk(tree) if isinstance(node, (ast.FunctionDef, ast.ClassDef))]


class FilesTest(unittest.TestCase):
    def test_the_stage_1_files_are_there(self):
        names = [path.name for path in files()]
        for name in ("__init__.py", "errors.py", "points.py", "headings.py"):
            self.assertIn(name, names)

    def test_plain_file_names(self):
        for path in files():
            self.assertRegex(path.name, r"\A([a-z][a-z0-9_]*|__init__|__main__)\.py\Z")
            self.assertFalse(path.name.startswith("test"))

    def test_signs_and_sizes(self):
        for path in files():
            text = path.read_bytes().decode("ascii")
            self.assertEqual(re.sub(r"[ -~\n]", "", text), "", path.name)
            self.assertLessEqual(len(text.splitlines()), 400, path.name)
            self.assertLessEqual(max(map(len, text.splitlines()), default=0), 120, path.name)

    def test_words_that_are_not_used(self):
        for path in files():
            self.assertIsNone(WORDS_NOT_USED.search(path.read_text(encoding="ascii")), path.name)


class CodeTest(unittest.TestCase):
    def test_statements(self):
        for name, tree in trees():
            for node in ast.walk(tree):
                with self.subTest(file=name, line=getattr(node, "lineno", 0)):
                    self.assertFalse(isinstance(node, ast.stmt) and not isinstance(node, STATEMENTS))
                    self.assertNotIsInstance(node, NOT_USED)
                    self.assertFalse(getattr(node, "orelse", None) and isinstance(node, (ast.For, ast.While)))
                    self.assertFalse(getattr(node, "finalbody", None))
                    self.assertFalse(isinstance(node, ast.Assign) and len(node.targets) != 1)

    def test_values(self):
        for name, tree in trees():
            for node in ast.walk(tree):
                if isinstance(node, ast.Constant):
                    self.assertIn(type(node.value), (int, str, bool, type(None)), f"{name}:{node.lineno}")

    def test_imports(self):
        for name, tree in trees():
            for node in ast.walk(tree):
                if isinstance(node, ast.ImportFrom):
                    self.assertIn(node, tree.body, name)
                    self.assertEqual(node.level, 0, name)
                    self.check_defined(node)

    def check_defined(self, row):
        package, file = row.module.split(".")
        self.assertEqual(package, "bouncewise")
        source = ast.parse((PACKAGE / f"{file}.py").read_text(encoding="ascii"))
        defined = [node.name for node in source.body if isinstance(node, (ast.FunctionDef, ast.ClassDef))]
        defined += [node.targets[0].id for node in source.body if isinstance(node, ast.Assign)]
        for alias in row.names:
            self.assertIn(alias.name, defined)

    def test_functions(self):
        for name, tree in trees():
            for node in functions(tree):
                with self.subTest(file=name, function=node.name):
                    self.assertLessEqual(node.end_lineno - node.lineno + 1, 40)
                    self.assertEqual(node.decorator_list, [])
                    arguments = node.args
                    self.assertFalse(arguments.vararg or arguments.kwarg or arguments.kwonlyargs)
                    self.assertFalse(arguments.posonlyargs)

    def test_classes(self):
        for name, tree in trees():
            for node in ast.walk(tree):
                if isinstance(node, ast.ClassDef):
                    with self.subTest(file=name, named=node.name):
                        self.assertIn(node, tree.body)
                        self.assertLessEqual(len(node.bases), 1)
                        self.assertEqual(node.keywords + node.decorator_list, [])
                        for part in node.body:
                            self.assertIsInstance(part, (ast.FunctionDef, ast.Pass))

    def test_names(self):
        for name, tree in trees():
            for bound in names_bound(tree):
                with self.subTest(file=name, bound=bound):
                    self.assertTrue(bound in METHODS_WITH_TWO_UNDERSCORES or not bound.startswith("_"))

    def test_names_of_pythons_own(self):
        for name, tree in trees():
            for node in ast.walk(tree):
                if isinstance(node, ast.Name) and isinstance(node.ctx, ast.Load) and hasattr(builtins, node.id):
                    self.assertIn(node.id, OWN_NAMES, f"{name}:{node.lineno}")

    def test_no_parameter_or_local_is_called_like_a_name_of_pythons_own(self):
        for name, tree in trees():
            for node in ast.walk(tree):
                if isinstance(node, ast.arg):
                    self.assertFalse(hasattr(builtins, node.arg), f"{name}:{node.lineno}")
                if isinstance(node, ast.Name) and isinstance(node.ctx, ast.Store):
                    self.assertFalse(hasattr(builtins, node.id), f"{name}:{node.lineno}")


if __name__ == "__main__":
    unittest.main()
