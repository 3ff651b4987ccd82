"""The form of the package's files: those rules of LANGUAGE.md that can be read off plainly, by their numbers."""

import ast
import builtins
import re
import unittest
from pathlib import Path

PACKAGE = Path(__file__).resolve().parent.parent / "bouncewise"

STATEMENTS = (
    ast.Assign, ast.AugAssign, ast.If, ast.While, ast.For, ast.Return, ast.Break, ast.Continue, ast.Pass,
    ast.Raise, ast.Try, ast.Expr, ast.FunctionDef, ast.ClassDef, ast.ImportFrom,
)
NOT_USED = (
    ast.Div, ast.MatMult, ast.SetComp, ast.DictComp, ast.GeneratorExp, ast.NamedExpr, ast.Starred,
    ast.Await, ast.Yield, ast.YieldFrom, ast.AnnAssign,
)
OWN_NAMES = set(
    "len range enumerate zip min max sum abs sorted reversed int str bool list tuple dict set frozenset "
    "isinstance ord repr any all divmod Exception ValueError TypeError KeyError IndexError LookupError "
    "ZeroDivisionError ArithmeticError OverflowError RuntimeError NotImplementedError AttributeError "
    "StopIteration".split()
)
NAMES_NOT_USED = set(
    "register mro elements open input version_info with_traceback add_note attrgetter breakpoint builtins compile "
    "copyright credits delattr dir eval exec exit gc getattr globals hasattr help id importlib license locals "
    "methodcaller os quit setattr super type vars sys chr print format format_map".split()
)
METHODS_OF_PYTHONS_OWN = set(
    "append clear copy count endswith extend find get index insert isalnum isalpha isdigit islower isspace isupper "
    "items join keys ljust lower lstrip partition pop remove replace reverse rfind rjust rpartition rsplit rstrip "
    "setdefault split splitlines startswith strip update upper values zfill bit_length".split()
)
VALUES_THAT_MAY_BE_CALLED_SO = set("count index title find get join lower upper split strip copy add".split())
KEYWORDS = {
    "sorted": {"key", "reverse"}, "min": {"key", "default"}, "max": {"key", "default"}, "sum": {"start"},
    "enumerate": {"start"}, "zip": {"strict"},
}
WALKED_AT_ONCE = {"zip", "enumerate", "reversed", "range", "items", "keys", "values"}
WALKERS = {"list", "tuple", "dict", "sorted", "sum", "any", "all", "enumerate", "zip", "min", "max", "join"}
READERS = set("len list tuple dict sorted sum any all min max get items keys values".split())
CHANGES = set("append clear extend insert pop remove reverse setdefault update".split())
METHODS_WITH_TWO_UNDERSCORES = {"__init__", "__eq__", "__repr__", "__str__", "__len__"}
WORDS_NOT_USED = re.compile(
    r"\b(type|typing|typing_extensions|enum|Enum|IntEnum|StrEnum|Flag|IntFlag|Generic|Protocol|ABC|ABCMeta"
    r"|namedtuple|NamedTuple|TypedDict|TYPE_CHECKING|abstractmethod)\b|dataclass|overload|contextmanager"
)


def files():
    return sorted(path for path in PACKAGE.rglob("*") if path.is_file() and "__pycache__" not in path.parts)


def trees():
    return [(path.name, ast.parse(path.read_text(encoding="ascii"))) for path in files()]


def functions(tree):
    return [node for node in ast.walk(tree) if isinstance(node, ast.FunctionDef)]


def names_bound(tree):
    bound = [node.id for node in ast.walk(tree) if isinstance(node, ast.Name) and isinstance(node.ctx, ast.Store)]
    bound += [node.arg for node in ast.walk(tree) if isinstance(node, ast.arg)]
    return bound + [node.name for node in ast.walk(tree) if isinstance(node, (ast.FunctionDef, ast.ClassDef))]


def nodes(*kinds):
    found = []
    for name, tree in trees():
        found += [(f"{name}:{node.lineno}", node) for node in ast.walk(tree) if isinstance(node, kinds)]
    return found


def classes():
    return [node for where, node in nodes(ast.ClassDef)]


def own_methods():
    return {part.name for node in classes() for part in node.body if isinstance(part, ast.FunctionDef)}


def own_values():
    return {node.attr for where, node in nodes(ast.Attribute) if isinstance(node.ctx, ast.Store)}


def names_of_pythons_own_values():
    return {name for kind in (str, int, list, tuple, dict, set, frozenset, bytes) for name in dir(kind)}


def called(node):
    if not isinstance(node, ast.Call):
        return None
    return node.func.id if isinstance(node.func, ast.Name) else node.func.attr


def walked_by(loop):
    if not isinstance(loop.iter, ast.Call):
        return {ast.unparse(loop.iter)}
    method = isinstance(loop.iter.func, ast.Attribute)
    return {ast.unparse(part) for part in loop.iter.args + ([loop.iter.func.value] if method else [])}


def changed_by(node):
    if isinstance(node, ast.Subscript) and isinstance(node.ctx, ast.Store):
        return ast.unparse(node.value)
    if called(node) in CHANGES and isinstance(node.func, ast.Attribute):
        return ast.unparse(node.func.value)
    return None


# What is an index's, a walk's, a comparison's or a reading call's own, and not handed on.
def read_by(node):
    if isinstance(node, ast.Subscript) and isinstance(node.ctx, ast.Load):
        return [node.value]
    if isinstance(node, (ast.For, ast.comprehension)):
        return [node.iter]
    if isinstance(node, ast.Compare) and isinstance(node.ops[0], (ast.In, ast.NotIn, ast.Eq, ast.NotEq)):
        return node.comparators
    if called(node) in READERS:
        return node.args + ([node.func.value] if isinstance(node.func, ast.Attribute) else [])
    return []


def drawn_from():
    return {
        name.removesuffix(".py"): {node.module.split(".")[1] for node in tree.body if isinstance(node, ast.ImportFrom)}
        for name, tree in trees()
    }


def is_plain(node):
    if isinstance(node, ast.UnaryOp) and isinstance(node.op, ast.USub):
        return isinstance(node.operand, ast.Constant)
    if isinstance(node, (ast.Tuple, ast.List)):
        return all(is_plain(part) for part in node.elts)
    if isinstance(node, ast.Dict):
        return all(is_plain(part) for part in node.keys + node.values)
    return isinstance(node, (ast.Constant, ast.Name))


class FilesTest(unittest.TestCase):
    def test_the_files_of_the_interface_are_there(self):
        names = [path.name for path in files()]
        for name in ("__init__", "errors", "points", "headings", "walls", "rooms", "texts", "meets", "flights",
                     "pictures", "light", "papers", "rounds", "boxes", "drawings", "desk"):
            self.assertIn(f"{name}.py", names)

    def test_plain_file_names(self):
        for path in files():
            self.assertRegex(path.name, r"\A([a-z][a-z0-9_]*|__init__|__main__)\.py\Z")
            self.assertFalse(path.name.startswith("test"))

    def test_signs_and_sizes(self):
        for path in files():
            text = path.read_bytes().decode("ascii")
            self.assertEqual(re.sub(r"[ -~\n]", "", text), "", path.name)
            self.assertLessEqual(len(text.splitlines()), 400, path.name)
            self.assertLessEqual(max(map(len, text.splitlines()), default=0), 120, path.name)

    def test_words_that_are_not_used(self):
        for path in files():
            self.assertIsNone(WORDS_NOT_USED.search(path.read_text(encoding="ascii")), path.name)


class CodeTest(unittest.TestCase):
    def test_statements(self):
        for name, tree in trees():
            for node in ast.walk(tree):
                with self.subTest(file=name, line=getattr(node, "lineno", 0)):
                    self.assertFalse(isinstance(node, ast.stmt) and not isinstance(node, STATEMENTS))
                    self.assertNotIsInstance(node, NOT_USED)
                    self.assertFalse(getattr(node, "orelse", None) and isinstance(node, (ast.For, ast.While)))
                    self.assertFalse(getattr(node, "finalbody", None))
                    self.assertFalse(isinstance(node, ast.Assign) and len(node.targets) != 1)

    def test_values(self):
        for name, tree in trees():
            for node in ast.walk(tree):
                if isinstance(node, ast.Constant):
                    self.assertIn(type(node.value), (int, str, bool, type(None)), f"{name}:{node.lineno}")

    def test_imports(self):
        for name, tree in trees():
            for node in ast.walk(tree):
                if isinstance(node, ast.ImportFrom):
                    self.assertIn(node, tree.body, name)
                    self.assertEqual(node.level, 0, name)
                    self.check_defined(node)

    def check_defined(self, row):
        package, file = row.module.split(".")
        self.assertEqual(package, "bouncewise")
        source = ast.parse((PACKAGE / f"{file}.py").read_text(encoding="ascii"))
        defined = [node.name for node in source.body if isinstance(node, (ast.FunctionDef, ast.ClassDef))]
        defined += [node.targets[0].id for node in source.body if isinstance(node, ast.Assign)]
        for alias in row.names:
            self.assertIn(alias.name, defined)

    def test_functions(self):
        for name, tree in trees():
            for node in functions(tree):
                with self.subTest(file=name, function=node.name):
                    self.assertLessEqual(node.end_lineno - node.lineno + 1, 40)
                    self.assertEqual(node.decorator_list, [])
                    arguments = node.args
                    self.assertFalse(arguments.vararg or arguments.kwarg or arguments.kwonlyargs)
                    self.assertFalse(arguments.posonlyargs)

    def test_classes(self):
        for name, tree in trees():
            for node in ast.walk(tree):
                if isinstance(node, ast.ClassDef):
                    with self.subTest(file=name, named=node.name):
                        self.assertIn(node, tree.body)
                        self.assertLessEqual(len(node.bases), 1)
                        self.assertEqual(node.keywords + node.decorator_list, [])
                        for part in node.body:
                            self.assertIsInstance(part, (ast.FunctionDef, ast.Pass))

    def test_names(self):
        for name, tree in trees():
            for bound in names_bound(tree):
                with self.subTest(file=name, bound=bound):
                    self.assertTrue(bound in METHODS_WITH_TWO_UNDERSCORES or not bound.startswith("_"))

    def test_names_of_pythons_own(self):
        for name, tree in trees():
            for node in ast.walk(tree):
                if isinstance(node, ast.Name) and isinstance(node.ctx, ast.Load) and hasattr(builtins, node.id):
                    self.assertIn(node.id, OWN_NAMES, f"{name}:{node.lineno}")

    def test_no_parameter_or_local_is_called_like_a_name_of_pythons_own(self):
        for name, tree in trees():
            for node in ast.walk(tree):
                if isinstance(node, ast.arg):
                    self.assertFalse(hasattr(builtins, node.arg), f"{name}:{node.lineno}")
                if isinstance(node, ast.Name) and isinstance(node.ctx, ast.Store):
                    self.assertFalse(hasattr(builtins, node.id), f"{name}:{node.lineno}")


class TopTest(unittest.TestCase):
    def test_l3_what_stands_at_the_top(self):
        for name, tree in trees():
            self.assertIsNotNone(ast.get_docstring(tree), name)
            for node in tree.body[1:]:
                with self.subTest(file=name, line=node.lineno):
                    self.assertIsInstance(node, (ast.ImportFrom, ast.FunctionDef, ast.ClassDef, ast.Assign))
                    if isinstance(node, ast.Assign):
                        self.assertIsInstance(node.targets[0], ast.Name)
                        self.assertTrue(is_plain(node.value))

    def test_l15_each_name_is_bound_once_at_the_top(self):
        for name, tree in trees():
            bound = self.names_at_the_top(tree)
            self.assertEqual(sorted(set(bound)), sorted(bound), name)

    def test_l15_no_list_or_dict_within_one_at_the_top(self):
        for name, tree in trees():
            for node in tree.body:
                if isinstance(node, ast.Assign):
                    kept = [part for part in ast.walk(node.value) if isinstance(part, (ast.List, ast.Dict))]
                    self.assertLessEqual(len(kept), 1, f"{name}:{node.lineno}")

    def test_l15_no_parameter_or_local_is_called_like_a_class_or_an_import(self):
        for name, tree in trees():
            taken = {alias.asname or alias.name for node in tree.body if isinstance(node, ast.ImportFrom)
                     for alias in node.names}
            taken |= {node.name for node in tree.body if isinstance(node, ast.ClassDef)}
            for node in functions(tree):
                inner = [part for part in names_bound(node) if part != node.name]
                self.assertEqual(taken & set(inner), set(), f"{name}:{node.lineno}")

    def test_l15_a_list_or_dict_of_the_top_is_only_read(self):
        for name, tree in trees():
            kept = {node.targets[0].id for node in tree.body
                    if isinstance(node, ast.Assign) and isinstance(node.value, (ast.List, ast.Dict))}
            read = {id(part) for node in ast.walk(tree) for part in read_by(node)}
            for node in ast.walk(tree):
                if isinstance(node, ast.Name) and node.id in kept and isinstance(node.ctx, ast.Load):
                    self.assertIn(id(node), read, f"{name}:{node.lineno}")

    def names_at_the_top(self, tree):
        bound = []
        for node in tree.body:
            if isinstance(node, ast.ImportFrom):
                bound += [alias.asname or alias.name for alias in node.names]
            if isinstance(node, (ast.FunctionDef, ast.ClassDef)):
                bound.append(node.name)
            if isinstance(node, ast.Assign):
                bound.append(node.targets[0].id)
        return bound

    def test_l16_no_two_files_draw_from_one_another(self):
        drawn = drawn_from()
        for file in drawn:
            reached, left = set(), set(drawn[file])
            while left:
                reached |= left
                left = set().union(*(drawn[other] for other in left)) - reached
            self.assertNotIn(file, reached)


class PartsTest(unittest.TestCase):
    def test_l4_defaults_are_plain(self):
        for where, node in nodes(ast.FunctionDef, ast.Lambda):
            self.assertTrue(all(is_plain(default) for default in node.args.defaults), where)

    def test_l7_comprehensions_and_f_strings(self):
        for where, node in nodes(ast.ListComp):
            self.assertEqual(len(node.generators), 1, where)
            self.assertLessEqual(len(node.generators[0].ifs), 1, where)
        for where, node in nodes(ast.FormattedValue):
            self.assertIsInstance(node.value, ast.Name, where)
            self.assertIsNone(node.format_spec, where)

    def test_l8_and_l17_names_that_are_not_used(self):
        for where, node in nodes(ast.Name):
            self.assertNotIn(node.id, NAMES_NOT_USED, where)
        for where, node in nodes(ast.Attribute):
            self.assertNotIn(node.attr, {"register", "mro", "elements", "open", "input", "format", "format_map"}, where)

    def test_l12_names_are_plain(self):
        for where, node in nodes(ast.Name):
            self.assertRegex(node.id, r"\A[A-Za-z][A-Za-z0-9_]*\Z", where)
        for where, node in nodes(ast.Attribute):
            self.assertTrue(node.attr == "__init__" or not node.attr.startswith("_"), where)

    def test_l20_is_stands_beside_none_true_and_false_alone(self):
        for where, node in nodes(ast.Compare):
            if any(isinstance(sign, (ast.Is, ast.IsNot)) for sign in node.ops):
                self.assertIsInstance(node.comparators[0], ast.Constant, where)
                self.assertIn(repr(node.comparators[0].value), ("None", "True", "False"), where)

    def test_l21_no_annotations(self):
        for where, node in nodes(ast.arg):
            self.assertIsNone(node.annotation, where)
        for where, node in nodes(ast.FunctionDef):
            self.assertIsNone(node.returns, where)

    def test_l24_no_sets(self):
        for where, node in nodes(ast.Set):
            self.fail(where)
        for where, node in nodes(ast.Name):
            self.assertNotIn(node.id, ("set", "frozenset"), where)

    def test_l27_numbers_and_texts(self):
        for where, node in nodes(ast.BinOp):
            if isinstance(node.op, ast.Pow):
                self.assertIsInstance(node.right, ast.Constant, where)
                self.assertIn(node.right.value, range(65), where)
        for where, node in nodes(ast.Constant):
            if isinstance(node.value, str):
                self.assertNotIn("%", node.value, where)
        for path in files():
            for sign in re.findall(r"\\(.)", path.read_text(encoding="ascii"), re.DOTALL):
                self.assertIn(sign, "nt\\'\"", path.name)

    def test_l13_no_two_lambdas_on_one_line(self):
        lines = [where for where, node in nodes(ast.Lambda)]
        self.assertEqual(len(lines), len(set(lines)))


class ErrorsTest(unittest.TestCase):
    def test_l19_errors_are_taken_by_name(self):
        own = {node.name for node in classes()} | {"KeyError", "ZeroDivisionError", "StopIteration"}
        for where, node in nodes(ast.ExceptHandler):
            taken = node.type.elts if isinstance(node.type, ast.Tuple) else [node.type]
            for part in taken:
                self.assertIsInstance(part, ast.Name, where)
                self.assertIn(part.id, own, where)

    def test_l19_raise_makes_its_error_on_the_spot(self):
        own = {node.name for node in classes()}
        for where, node in nodes(ast.Raise):
            self.assertIn(called(node.exc), own, where)


class ClassesTest(unittest.TestCase):
    def test_l18_no_method_stands_twice(self):
        for node in classes():
            names = [part.name for part in node.body if isinstance(part, ast.FunctionDef)]
            self.assertEqual(len(set(names)), len(names), node.name)

    def test_l18_no_name_is_a_method_and_a_value(self):
        self.assertEqual(own_methods() & own_values(), set())

    def test_l18_a_class_is_called_or_a_base_and_not_handed_on(self):
        names = {node.name for node in classes()}
        for name, tree in trees():
            allowed = set()
            for node in ast.walk(tree):
                if isinstance(node, ast.Call):
                    allowed.add(id(node.func))
                    allowed |= {id(part) for part in ast.walk(node.args[-1])} if called(node) == "isinstance" else set()
                if isinstance(node, ast.ClassDef):
                    allowed |= {id(base) for base in node.bases}
                if isinstance(node, ast.ExceptHandler):
                    allowed |= {id(part) for part in ast.walk(node.type)}
                if isinstance(node, ast.Attribute) and node.attr == "__init__":
                    allowed.add(id(node.value))
            for node in ast.walk(tree):
                if isinstance(node, ast.Name) and node.id in names:
                    self.assertIn(id(node), allowed, f"{name}:{node.lineno}")

    def test_l26_own_methods_and_values_are_not_called_like_pythons_own(self):
        taken = names_of_pythons_own_values()
        free = METHODS_WITH_TWO_UNDERSCORES | METHODS_OF_PYTHONS_OWN | {"add", "discard"}
        self.assertEqual(own_methods() & taken - free, set())
        self.assertEqual(own_values() & (taken | {"args"}) - VALUES_THAT_MAY_BE_CALLED_SO, set())

    def test_l28_init_gives_back_nothing(self):
        for where, node in nodes(ast.FunctionDef):
            if node.name == "__init__":
                self.assertFalse([part for part in ast.walk(node) if isinstance(part, ast.Return)], where)


class CallsTest(unittest.TestCase):
    def test_l22_keywords_at_names_of_pythons_own(self):
        for where, node in nodes(ast.Call):
            name = called(node)
            if name in OWN_NAMES or name in METHODS_OF_PYTHONS_OWN:
                self.assertLessEqual({part.arg for part in node.keywords}, KEYWORDS.get(name, set()), where)

    def test_l22_names_of_pythons_own_are_called_and_not_kept(self):
        functions_of_own = {name for name in OWN_NAMES if name[0].islower()}
        for name, tree in trees():
            allowed = {id(node.func) for node in ast.walk(tree) if isinstance(node, ast.Call)}
            for node in ast.walk(tree):
                if called(node) == "isinstance":
                    allowed |= {id(part) for part in ast.walk(node.args[1])}
                if isinstance(node, ast.keyword) and node.arg == "key":
                    allowed.add(id(node.value))
            for node in ast.walk(tree):
                if isinstance(node, ast.Name) and node.id in functions_of_own:
                    self.assertIn(id(node), allowed, f"{name}:{node.lineno}")

    def test_l23_walked_at_once(self):
        for name, tree in trees():
            allowed = {id(node.iter) for node in ast.walk(tree) if isinstance(node, (ast.For, ast.comprehension))}
            for node in ast.walk(tree):
                if called(node) in WALKERS and node.args:
                    allowed.add(id(node.args[0]))
            for node in ast.walk(tree):
                if called(node) in WALKED_AT_ONCE:
                    self.assertIn(id(node), allowed, f"{name}:{node.lineno}")

    def test_l23_what_a_loop_walks_is_not_changed_in_it(self):
        for where, loop in nodes(ast.For):
            for row in loop.body:
                for node in ast.walk(row):
                    self.assertNotIn(changed_by(node), walked_by(loop), where)

    def test_l25_methods_are_own_ones_or_listed(self):
        allowed = METHODS_OF_PYTHONS_OWN | own_methods()
        for where, node in nodes(ast.Call):
            if isinstance(node.func, ast.Attribute):
                self.assertIn(node.func.attr, allowed, where)

    def test_l25_a_method_is_called_where_it_stands(self):
        for name, tree in trees():
            allowed = {id(node.func) for node in ast.walk(tree) if isinstance(node, ast.Call)}
            for node in ast.walk(tree):
                if isinstance(node, ast.Attribute) and node.attr not in own_values():
                    self.assertIn(id(node), allowed, f"{name}:{node.lineno}")


if __name__ == "__main__":
    unittest.main()
