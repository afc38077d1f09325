"""The package keeps to the small part of Python that its language rules allow.

Looked at are the plain forms of L1 to L8, L10, L12, L14 to L28. Not looked at, so to be kept by reading: L9, L11, L13,
and whatever of the others hangs on what a value is."""

import ast
import builtins
import pathlib
import re
import unittest

ROOT = pathlib.Path(__file__).resolve().parent.parent
PACKAGE = ROOT / "tidepond"

BUILTINS = set(
    "len range enumerate zip min max sum abs sorted reversed int str bool list tuple dict set frozenset isinstance "
    "ord repr any all divmod Exception ValueError TypeError KeyError IndexError LookupError ZeroDivisionError "
    "ArithmeticError OverflowError RuntimeError NotImplementedError AttributeError StopIteration".split())
METHODS = set(
    "append clear copy count endswith extend find get index insert isalnum isalpha isdigit islower isspace isupper "
    "items join keys ljust lower lstrip partition pop remove replace reverse rfind rjust rpartition rsplit rstrip "
    "setdefault split splitlines startswith strip update upper values zfill bit_length".split())
SPECIAL = {"__init__", "__eq__", "__repr__", "__str__", "__len__"}
UNUSED = set(
    "register mro elements open input version_info with_traceback add_note format format_map attrgetter breakpoint "
    "builtins compile copyright credits delattr dir eval exec exit gc getattr globals hasattr help id importlib "
    "license locals methodcaller os quit setattr super vars sys chr print sort".split())
WORDS = re.compile(
    r"\b(type|typing|typing_extensions|enum|Enum|IntEnum|StrEnum|Flag|IntFlag|Generic|Protocol|ABC|ABCMeta|"
    r"namedtuple|NamedTuple|TypedDict|TYPE_CHECKING|abstractmethod)\b|dataclass|overload|contextmanager")
STATEMENTS = (
    ast.Assign, ast.AugAssign, ast.If, ast.While, ast.For, ast.Return, ast.Break, ast.Continue, ast.Pass, ast.Raise,
    ast.Try, ast.FunctionDef, ast.ClassDef, ast.ImportFrom, ast.Expr)
EXPRESSIONS = (
    ast.Constant, ast.List, ast.Tuple, ast.Dict, ast.Set, ast.BinOp, ast.UnaryOp, ast.BoolOp, ast.Compare, ast.IfExp,
    ast.Call, ast.Attribute, ast.Subscript, ast.Slice, ast.ListComp, ast.JoinedStr, ast.FormattedValue, ast.Name,
    ast.Lambda)


KEYWORDS = {"sorted": ("key", "reverse"), "min": ("key", "default"), "max": ("key", "default"), "sum": ("start",),
            "enumerate": ("start",), "zip": ("strict",)}
WALKED = ("zip", "enumerate", "reversed", "range", "items", "keys", "values")
WALKERS = ("list", "tuple", "dict", "sorted", "sum", "any", "all", "enumerate", "zip", "min", "max", "join")
VALUES_NOT_USED = set(
    "items keys values pop update append clear extend insert remove reverse setdefault sort args encode format".split())
OWN_METHODS = {name for kind in (str, int, list, dict, set, bytes, tuple) for name in dir(kind)}
PLAIN = (ast.Constant, ast.List, ast.Tuple, ast.Dict, ast.Name)


def files():
    return sorted(path for path in PACKAGE.rglob("*") if path.is_file() and "__pycache__" not in path.parts)


def nodes(path):
    return list(ast.walk(ast.parse(path.read_text())))


def bound_names(node):
    if isinstance(node, ast.Name) and isinstance(node.ctx, ast.Store):
        return [node.id]
    if isinstance(node, ast.arg):
        return [node.arg]
    if isinstance(node, (ast.FunctionDef, ast.ClassDef)):
        return [node.name]
    return []


def called(node):
    if not isinstance(node, ast.Call):
        return None
    return node.func.id if isinstance(node.func, ast.Name) else getattr(node.func, "attr", None)


def parents(path):
    return [(parent, child) for parent in nodes(path) for child in ast.iter_child_nodes(parent)]


class TestLanguage(unittest.TestCase):
    def each(self, check):
        for path in files():
            for node in nodes(path):
                with self.subTest(file=path.name, line=getattr(node, "lineno", 0)):
                    check(node)

    def test_files_and_their_names(self):
        self.assertIn(PACKAGE / "__init__.py", files())
        for path in files():
            self.assertRegex(path.name, r"\A([a-z][a-z0-9_]*|__init__|__main__)\.py\Z")
            self.assertNotIn(path.stem, set(dir(builtins)) | {"test", "tests", "testing", "site", "conftest"})
            self.assertFalse(path.stem.startswith("test_"))

    def test_signs_words_and_sizes(self):
        for path in files():
            text = path.read_text()
            with self.subTest(file=path.name):
                self.assertRegex(text, r"\A[ -~\n]*\Z")
                self.assertIsNone(WORDS.search(text))
                self.assertLessEqual(len(text.splitlines()), 400)
                self.assertLessEqual(max(len(line) for line in text.splitlines()), 120)

    def test_the_top_of_a_module(self):
        for path in files():
            for node in ast.parse(path.read_text()).body:
                with self.subTest(file=path.name, line=node.lineno):
                    self.assertIsInstance(
                        node, (ast.Expr, ast.ImportFrom, ast.FunctionDef, ast.ClassDef, ast.Assign))

    def test_statements_and_expressions(self):
        def check(node):
            if isinstance(node, ast.stmt):
                self.assertIsInstance(node, STATEMENTS)
            if isinstance(node, ast.expr):
                self.assertIsInstance(node, EXPRESSIONS)
            if isinstance(node, (ast.For, ast.While)):
                self.assertEqual(node.orelse, [])
            if isinstance(node, ast.Try):
                self.assertEqual(node.finalbody, [])
            if isinstance(node, ast.Assign):
                self.assertEqual(len(node.targets), 1)
            if isinstance(node, ast.BinOp):
                self.assertNotIsInstance(node.op, (ast.Div, ast.MatMult))
            if isinstance(node, ast.Expr):
                self.assertIsInstance(node.value, (ast.Call, ast.Constant))
        self.each(check)

    def test_values(self):
        def check(node):
            if isinstance(node, ast.Constant):
                self.assertIsInstance(node.value, (int, str, type(None)))
                self.assertNotIn("%", str(node.value))
            if isinstance(node, ast.ListComp):
                self.assertEqual(len(node.generators), 1)
                self.assertLessEqual(len(node.generators[0].ifs), 1)
            if isinstance(node, ast.Compare) and isinstance(node.ops[0], (ast.Is, ast.IsNot)):
                self.assertIsInstance(node.comparators[0], ast.Constant)
        self.each(check)

    def test_imports_are_of_the_package_alone(self):
        def check(node):
            self.assertNotIsInstance(node, ast.Import)
            if isinstance(node, ast.ImportFrom):
                self.assertEqual(node.level, 0)
                self.assertTrue((ROOT / (node.module.replace(".", "/") + ".py")).is_file())
                self.assertTrue(node.module.startswith("tidepond."))
                self.assertNotIn("*", [name.name for name in node.names])
        self.each(check)

    def test_no_two_files_draw_from_one_another(self):
        drawn = {}
        for path in files():
            rows = [node for node in nodes(path) if isinstance(node, ast.ImportFrom)]
            drawn[path.stem] = {row.module.rpartition(".")[2] for row in rows}
        for name in drawn:
            reached = set()
            ahead = set(drawn[name])
            while ahead:
                other = ahead.pop()
                reached.add(other)
                ahead |= drawn.get(other, set()) - reached
            self.assertNotIn(name, reached)

    def test_a_name_is_bound_once_at_the_top(self):
        for path in files():
            names = []
            for node in ast.parse(path.read_text()).body:
                if isinstance(node, ast.ImportFrom):
                    names += [name.name for name in node.names]
                elif isinstance(node, ast.Assign):
                    names += bound_names(node.targets[0])
                else:
                    names += bound_names(node)
            with self.subTest(file=path.name):
                self.assertEqual(sorted(names), sorted(set(names)))

    def test_functions_and_classes(self):
        def check(node):
            if isinstance(node, ast.FunctionDef):
                self.assertLessEqual(node.end_lineno - node.lineno + 1, 40)
                self.assertEqual((node.decorator_list, node.args.vararg, node.args.kwarg), ([], None, None))
                self.assertEqual((node.args.kwonlyargs, node.args.posonlyargs), ([], []))
            if isinstance(node, ast.ClassDef):
                self.assertEqual((node.decorator_list, node.keywords), ([], []))
                self.assertLessEqual(len(node.bases), 1)
                for part in node.body:
                    self.assertIsInstance(part, (ast.FunctionDef, ast.Pass))
        self.each(check)

    def test_names(self):
        def check(node):
            for name in bound_names(node):
                if name not in SPECIAL:
                    self.assertRegex(name, r"\A[A-Za-z][A-Za-z0-9_]*\Z")
                    self.assertNotIn(name, dir(builtins))
                self.assertNotIn(name, UNUSED)
            if isinstance(node, ast.Name) and isinstance(node.ctx, ast.Load):
                self.assertNotIn(node.id, UNUSED)
                self.assertNotIn(node.id, set(dir(builtins)) - BUILTINS)
            if isinstance(node, ast.Attribute):
                self.assertNotIn(node.attr, UNUSED)
        self.each(check)

    def test_methods(self):
        own = [node.name for path in files() for node in nodes(path) if isinstance(node, ast.FunctionDef)]

        def check(node):
            if isinstance(node, ast.Call) and isinstance(node.func, ast.Attribute):
                self.assertIn(node.func.attr, METHODS | set(own))
        self.each(check)

    def test_errors_are_taken_by_name(self):
        def check(node):
            if isinstance(node, ast.ExceptHandler):
                self.assertIsNotNone(node.type)
                for name in ast.walk(node.type):
                    if isinstance(name, ast.Name):
                        self.assertNotIn(name.id, ("Exception", "TypeError"))
            if isinstance(node, ast.Raise):
                self.assertIsInstance(node.exc, ast.Call)
        self.each(check)

    def test_values_at_the_top_are_plain(self):
        for path in files():
            made = [node.name for node in nodes(path) if isinstance(node, ast.FunctionDef)]
            for node in ast.parse(path.read_text()).body:
                if isinstance(node, ast.Assign):
                    with self.subTest(file=path.name, line=node.lineno):
                        for part in ast.walk(node.value):
                            self.assertIsInstance(part, PLAIN + (ast.expr_context,))
                            if isinstance(part, ast.Name):
                                self.assertIn(part.id, made)
                        for part in ast.iter_child_nodes(node.value):
                            self.assertNotIsInstance(part, (ast.List, ast.Dict))

    def test_no_local_is_called_like_a_class_or_an_import_of_its_file(self):
        for path in files():
            taken = []
            for node in nodes(path):
                if isinstance(node, ast.ImportFrom):
                    taken += [name.name for name in node.names]
                if isinstance(node, ast.ClassDef):
                    taken.append(node.name)
            for node in nodes(path):
                if isinstance(node, (ast.Name, ast.arg)):
                    with self.subTest(file=path.name, line=node.lineno):
                        self.assertEqual(set(bound_names(node)) & set(taken), set())

    def test_methods_and_values_of_classes(self):
        methods = []
        values = []
        for path in files():
            for node in nodes(path):
                if isinstance(node, ast.ClassDef):
                    methods += [part.name for part in node.body if isinstance(part, ast.FunctionDef)]
                if isinstance(node, ast.Attribute) and isinstance(node.ctx, ast.Store):
                    self.assertIsInstance(node.value, ast.Name)
                    values.append(node.attr)
        self.assertEqual(set(methods) & set(values), set())
        self.assertEqual((set(methods) - SPECIAL) & OWN_METHODS, set())
        self.assertEqual(set(values) & (VALUES_NOT_USED | OWN_METHODS), set())

    def test_keywords(self):
        def check(node):
            if isinstance(node, ast.Call):
                for keyword in node.keywords:
                    self.assertIn(keyword.arg, KEYWORDS.get(called(node), ()))
        self.each(check)

    def test_what_is_called_is_not_kept(self):
        for path in files():
            for parent, child in parents(path):
                if isinstance(child, ast.Name) and child.id in BUILTINS - {"ValueError"}:
                    with self.subTest(file=path.name, line=child.lineno):
                        is_key = isinstance(parent, ast.keyword) and parent.arg == "key"
                        self.assertTrue(is_key or isinstance(parent, ast.Call) and parent.func is child)

    def test_what_is_walked_at_once(self):
        for path in files():
            for parent, child in parents(path):
                if called(child) in WALKED:
                    with self.subTest(file=path.name, line=child.lineno):
                        if isinstance(parent, (ast.For, ast.comprehension)):
                            self.assertIs(parent.iter, child)
                        else:
                            self.assertIn(called(parent), WALKERS)

    def test_sets_are_asked_on_the_spot(self):
        for path in files():
            for parent, child in parents(path):
                if isinstance(child, ast.Set) or called(child) in ("set", "frozenset"):
                    with self.subTest(file=path.name, line=child.lineno):
                        self.assertTrue(isinstance(parent, ast.Compare) or called(parent) in ("sorted", "len"))

    def test_init_gives_back_nothing(self):
        def check(node):
            if isinstance(node, ast.FunctionDef) and node.name in SPECIAL:
                self.assertEqual(node.name, "__init__")
                self.assertEqual([part for part in ast.walk(node) if isinstance(part, ast.Return)], [])
        self.each(check)


if __name__ == "__main__":
    unittest.main()
