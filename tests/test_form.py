"""The form of the package's files, as far as a short look at them tells it (rules L1 to L28)."""

import ast
import builtins
import pathlib
import re
import unittest

PACKAGE = pathlib.Path(__file__).resolve().parent.parent / "needledeck"

# L8, without chr (L27) and print (no __main__.py is there).
OWN_NAMES = set("""len range enumerate zip min max sum abs sorted reversed int str bool bytes list tuple dict set
frozenset isinstance ord repr any all divmod Exception ValueError TypeError KeyError IndexError LookupError
ZeroDivisionError ArithmeticError OverflowError RuntimeError NotImplementedError AttributeError
StopIteration""".split())

# L5, L6, L7.
FORBIDDEN_NODES = (ast.With, ast.Match, ast.Global, ast.Nonlocal, ast.Yield, ast.YieldFrom, ast.AsyncFunctionDef,
                   ast.AsyncFor, ast.AsyncWith, ast.Await, ast.GeneratorExp, ast.NamedExpr, ast.Div, ast.MatMult,
                   ast.Starred)

# L17's last list.
FORBIDDEN_WORDS = re.compile(r"\b(type|typing|typing_extensions|enum|Enum|IntEnum|StrEnum|Flag|IntFlag|Generic|"
                             r"Protocol|ABC|ABCMeta|namedtuple|NamedTuple|TypedDict|TYPE_CHECKING|abstractmethod)\b|"
                             r"dataclass|overload|contextmanager")

# L17's first two lists, less what Python's own names hold.
FORBIDDEN_NAMES = set("""register mro elements open input version_info with_traceback add_note attrgetter breakpoint
builtins compile copyright credits delattr dir eval exec exit gc getattr globals hasattr help id importlib license
locals methodcaller os quit setattr super type vars sys format format_map args""".split())

# L25's first list, and encode and kin are not among them: this package makes no bytes.
METHODS = set("""append clear copy count endswith extend find get index insert isalnum isalpha isdigit islower isspace
isupper items join keys ljust lower lstrip partition pop remove replace reverse rfind rjust rpartition rsplit rstrip
setdefault split splitlines startswith strip update upper values zfill bit_length sort""".split())

# L26: methods of Python's own values that no own method may be called like.
TAKEN = {name for kind in (str, int, list, dict, set, bytes) for name in dir(kind)} - METHODS - {"add", "discard"}

WALKED = ("zip", "enumerate", "reversed", "range")
WALKERS = ("list", "tuple", "dict", "sorted", "sum", "any", "all", "enumerate", "zip", "bytes", "min", "max")
DUNDERS = ("__init__", "__eq__", "__repr__", "__str__", "__len__")


def sources():
    return [(path.name, path.read_text(encoding="utf-8")) for path in sorted(PACKAGE.glob("*.py"))]


def trees():
    return [(name, ast.parse(text)) for name, text in sources()]


def bound_at_top(tree):
    """The names that a file's top binds, as often as it binds them."""
    found = []
    for node in tree.body:
        if isinstance(node, (ast.FunctionDef, ast.ClassDef)):
            found.append(node.name)
        elif isinstance(node, ast.ImportFrom):
            found += [alias.asname or alias.name for alias in node.names]
        elif isinstance(node, ast.Assign):
            found += [target.id for target in node.targets]
    return found


def imported(tree):
    return [(node.module, alias.name) for node in tree.body if isinstance(node, ast.ImportFrom)
            for alias in node.names]


def of_kind(tree, kind):
    return [node for node in ast.walk(tree) if isinstance(node, kind)]


def is_call_of(node, names):
    return isinstance(node, ast.Call) and isinstance(node.func, ast.Name) and node.func.id in names


def own_methods():
    return [method.name for name, tree in trees() for one in of_kind(tree, ast.ClassDef)
            for method in one.body if isinstance(method, ast.FunctionDef)]


def own_values():
    """The names of values that objects of the package are given."""
    return [node.attr for name, tree in trees() for node in of_kind(tree, ast.Attribute)
            if isinstance(node.ctx, ast.Store)]


class TestForm(unittest.TestCase):
    def each_node(self):
        for name, tree in trees():
            for node in ast.walk(tree):
                yield f"{name}:{getattr(node, 'lineno', '-')}", node

    def test_files(self):
        self.assertTrue((PACKAGE / "__init__.py").is_file())
        for path in PACKAGE.iterdir():
            if path.name != "__pycache__":
                self.assertRegex(path.name, r"^[a-z_][a-z0-9_]*\.py$")

    def test_size_and_signs(self):
        for name, text in sources():
            with self.subTest(name=name):
                rows = text.split("\n")
                self.assertLessEqual(len(rows) - 1, 400)
                self.assertLessEqual(max(len(row) for row in rows), 120)
                self.assertRegex(text, r"\A[ -~\n]*\Z")
                self.assertIsNone(FORBIDDEN_WORDS.search(text))

    def test_functions_are_short_and_plain(self):
        for where, node in self.each_node():
            if isinstance(node, ast.FunctionDef):
                with self.subTest(where=where):
                    self.assertLessEqual(node.end_lineno - node.lineno + 1, 40)
                    self.assertEqual(node.decorator_list, [])
                    self.assertEqual(node.args.posonlyargs, [])
                    self.assertIsNone(node.args.vararg)
                    self.assertIsNone(node.args.kwarg)

    def test_imports_are_the_packages_own(self):
        for where, node in self.each_node():
            with self.subTest(where=where):
                self.assertNotIsInstance(node, ast.Import)
                if isinstance(node, ast.ImportFrom):
                    self.assertEqual(node.level, 0)
                    self.assertTrue(node.module.startswith("needledeck."))
                    self.assertNotIn("*", [alias.name for alias in node.names])

    def test_imports_come_from_the_file_that_defines_the_name(self):
        defined = {}
        drawn = {}
        for name, tree in trees():
            module = "needledeck." + name[:-3]
            drawn[module] = {other for other, what in imported(tree)}
            defined[module] = set(bound_at_top(tree)) - {what for other, what in imported(tree)}
        for name, tree in trees():
            for module, what in imported(tree):
                with self.subTest(name=name, what=what):
                    self.assertIn(what, defined[module])
        # Files that draw from none of those left are taken away until none is left: so there is no ring.
        while drawn:
            free = [module for module, others in drawn.items() if not others & set(drawn)]
            self.assertNotEqual(free, [])
            drawn = {module: others for module, others in drawn.items() if module not in free}

    def test_what_is_imported_is_used(self):
        for name, tree in trees():
            used = {node.id for node in of_kind(tree, ast.Name)}
            for module, what in imported(tree):
                with self.subTest(name=name, what=what):
                    self.assertIn(what, used)

    def test_the_top_of_a_file(self):
        for name, tree in trees():
            with self.subTest(name=name):
                self.assertEqual(len(set(bound_at_top(tree))), len(bound_at_top(tree)))
                self.assertIsInstance(tree.body[0], ast.Expr)
                for node in tree.body[1:]:
                    self.assertIsInstance(node, (ast.ImportFrom, ast.FunctionDef, ast.ClassDef, ast.Assign))
                for node in of_kind(tree, ast.ClassDef):
                    self.assertIn(node, tree.body)
                    self.assertLessEqual(len(node.bases), 1)
                    for part in node.body:
                        self.assertIsInstance(part, (ast.FunctionDef, ast.Expr))
                for node in tree.body:
                    if isinstance(node, ast.Assign):
                        inner = of_kind(node.value, (ast.List, ast.Dict))
                        self.assertIn(inner, ([], [node.value]))
                        self.assertEqual(of_kind(node.value, (ast.Call, ast.ListComp, ast.DictComp, ast.Set)), [])

    def test_no_local_is_called_like_an_import_or_a_class(self):
        for name, tree in trees():
            taken = {what for module, what in imported(tree)}
            taken |= {node.name for node in of_kind(tree, ast.ClassDef)}
            for node in of_kind(tree, ast.FunctionDef):
                given = {one.id for one in of_kind(node, ast.Name) if isinstance(one.ctx, ast.Store)}
                given |= {one.arg for one in of_kind(node, ast.arg)}
                with self.subTest(name=name, node=node.name):
                    self.assertEqual(given & taken, set())

    def test_statements_expressions_and_names(self):
        for where, node in self.each_node():
            with self.subTest(where=where):
                self.assertNotIsInstance(node, FORBIDDEN_NODES)
                if isinstance(node, ast.Constant):
                    self.assertNotIsInstance(node.value, (float, complex))
                    self.assertFalse(isinstance(node.value, str) and "%" in node.value)
                if isinstance(node, (ast.For, ast.While)):
                    self.assertEqual(node.orelse, [])
                if isinstance(node, ast.Name):
                    self.assertFalse(node.id.startswith("_"))
                    self.assertNotIn(node.id, FORBIDDEN_NAMES)
                    self.assertTrue(node.id in OWN_NAMES or not hasattr(builtins, node.id))
                    self.assertFalse(isinstance(node.ctx, ast.Store) and hasattr(builtins, node.id))
                if isinstance(node, ast.arg):
                    self.assertFalse(node.arg.startswith("_") or hasattr(builtins, node.arg))
                    self.assertNotIn(node.arg, FORBIDDEN_NAMES)
                if isinstance(node, ast.BinOp) and isinstance(node.op, ast.Pow):
                    self.assertIsInstance(node.right, ast.Constant)
                if isinstance(node, ast.FormattedValue):
                    self.assertIsNone(node.format_spec)

    def test_is_stands_beside_none_and_truths_alone(self):
        for where, node in self.each_node():
            if isinstance(node, ast.Compare):
                for sign, right in zip(node.ops, node.comparators):
                    if isinstance(sign, (ast.Is, ast.IsNot)):
                        with self.subTest(where=where):
                            self.assertIsInstance(right, ast.Constant)
                            self.assertIn(right.value, (None, True, False))

    def test_errors_are_the_programs_own_and_made_on_the_spot(self):
        for where, node in self.each_node():
            with self.subTest(where=where):
                if isinstance(node, ast.Raise):
                    self.assertTrue(is_call_of(node.exc, [node.exc.func.id]))
                    self.assertRegex(node.exc.func.id, r"^No[A-Z]")
                if isinstance(node, ast.ExceptHandler):
                    self.assertRegex(getattr(node.type, "id", ""), r"^(No[A-Z]|KeyError)")

    def test_methods_and_values(self):
        methods, values = own_methods(), own_values()
        self.assertEqual(set(methods) & set(values), set())
        for name in methods:
            self.assertTrue(name in DUNDERS or name not in TAKEN, name)
        for name in values:
            self.assertNotIn(name, TAKEN | METHODS)
        for where, node in self.each_node():
            if isinstance(node, ast.Attribute):
                with self.subTest(where=where):
                    self.assertIn(node.attr, METHODS | set(methods) | set(values))
                    self.assertNotIn(node.attr, FORBIDDEN_NAMES)

    def test_what_is_walked_is_walked_on_the_spot(self):
        for name, tree in trees():
            fit = [node.iter for node in of_kind(tree, (ast.For, ast.comprehension))]
            fit += [node.args[0] for node in of_kind(tree, ast.Call) if is_call_of(node, WALKERS) and node.args]
            fit += [one for node in of_kind(tree, ast.Call) if is_call_of(node, ("zip",)) for one in node.args]
            fit += [node.args[0] for node in of_kind(tree, ast.Call)
                    if is_call_of(node, ("reversed",)) and is_call_of(node.args[0], ("range",))]
            for node in of_kind(tree, ast.Call):
                method = isinstance(node.func, ast.Attribute) and node.func.attr in ("items", "keys", "values")
                if method or is_call_of(node, WALKED):
                    with self.subTest(name=name, row=node.lineno):
                        self.assertTrue(any(node is one for one in fit))

    def test_sets_stand_where_they_may(self):
        # None is kept: where a class has a method called add, nothing can be added to a kept set (L24).
        for name, tree in trees():
            fit = []
            for node in ast.walk(tree):
                if is_call_of(node, ("sorted", "len")):
                    fit += of_kind(node.args[0], (ast.Call, ast.SetComp, ast.Set))
                if isinstance(node, ast.Compare):
                    fit += [one for part in [node.left] + node.comparators
                            for one in of_kind(part, (ast.Call, ast.SetComp, ast.Set))]
            for node in ast.walk(tree):
                if is_call_of(node, ("set", "frozenset")) or isinstance(node, (ast.SetComp, ast.Set)):
                    with self.subTest(name=name, row=node.lineno):
                        self.assertTrue(any(node is one for one in fit))


if __name__ == "__main__":
    unittest.main()
