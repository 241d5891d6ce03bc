"""The form of the package's files, as far as a short look at them tells it (rules L1 to L28)."""

import ast
import builtins
import pathlib
import re
import unittest

PACKAGE = pathlib.Path(__file__).resolve().parent.parent / "needledeck"

# L8, without chr (L27) and print (no __main__.py is there).
OWN_NAMES = set("""len range enumerate zip min max sum abs sorted reversed int str bool bytes list tuple dict set
frozenset isinstance ord repr any all divmod Exception ValueError TypeError KeyError IndexError LookupError
ZeroDivisionError ArithmeticError OverflowError RuntimeError NotImplementedError AttributeError
StopIteration""".split())

# L6, L7.
FORBIDDEN_NODES = (ast.With, ast.Match, ast.Global, ast.Nonlocal, ast.Yield, ast.YieldFrom, ast.AsyncFunctionDef,
                   ast.AsyncFor, ast.AsyncWith, ast.Await, ast.GeneratorExp, ast.NamedExpr, ast.Div, ast.MatMult)

# L17's last list.
FORBIDDEN_WORDS = re.compile(r"\b(type|typing|typing_extensions|enum|Enum|IntEnum|StrEnum|Flag|IntFlag|Generic|"
                             r"Protocol|ABC|ABCMeta|namedtuple|NamedTuple|TypedDict|TYPE_CHECKING|abstractmethod)\b|"
                             r"dataclass|overload|contextmanager")


def sources():
    return [(path.name, path.read_text(encoding="utf-8")) for path in sorted(PACKAGE.glob("*.py"))]


class TestForm(unittest.TestCase):
    def each_node(self):
        for name, text in sources():
            for node in ast.walk(ast.parse(text)):
                yield f"{name}:{getattr(node, 'lineno', '-')}", node

    def test_files(self):
        self.assertTrue((PACKAGE / "__init__.py").is_file())
        for path in PACKAGE.iterdir():
            if path.name != "__pycache__":
                self.assertRegex(path.name, r"^[a-z_][a-z0-9_]*\.py$")

    def test_size_and_signs(self):
        for name, text in sources():
            with self.subTest(name=name):
                rows = text.split("\n")
                self.assertLessEqual(len(rows) - 1, 400)
                self.assertLessEqual(max(len(row) for row in rows), 120)
                self.assertRegex(text, r"\A[ -~\n]*\Z")
                self.assertIsNone(FORBIDDEN_WORDS.search(text))

    def test_functions_are_short_and_plain(self):
        for where, node in self.each_node():
            if isinstance(node, ast.FunctionDef):
                with self.subTest(where=where):
                    self.assertLessEqual(node.end_lineno - node.lineno + 1, 40)
                    self.assertEqual(node.decorator_list, [])
                    self.assertEqual(node.args.posonlyargs, [])
                    self.assertIsNone(node.args.vararg)
                    self.assertIsNone(node.args.kwarg)

    def test_imports_are_the_packages_own(self):
        for where, node in self.each_node():
            with self.subTest(where=where):
                self.assertNotIsInstance(node, ast.Import)
                if isinstance(node, ast.ImportFrom):
                    self.assertEqual(node.level, 0)
                    self.assertTrue(node.module.startswith("needledeck."))
                    self.assertNotIn("*", [alias.name for alias in node.names])

    def test_statements_expressions_and_names(self):
        for where, node in self.each_node():
            with self.subTest(where=where):
                self.assertNotIsInstance(node, FORBIDDEN_NODES)
                if isinstance(node, ast.Constant):
                    self.assertNotIsInstance(node.value, (float, complex))
                if isinstance(node, (ast.For, ast.While)):
                    self.assertEqual(node.orelse, [])
                if isinstance(node, ast.Name):
                    self.assertFalse(node.id.startswith("_"))
                    self.assertTrue(node.id in OWN_NAMES or not hasattr(builtins, node.id))
                    self.assertFalse(isinstance(node.ctx, ast.Store) and hasattr(builtins, node.id))
                if isinstance(node, ast.arg):
                    self.assertFalse(node.arg.startswith("_") or hasattr(builtins, node.arg))
                if isinstance(node, ast.BinOp) and isinstance(node.op, ast.Pow):
                    self.assertIsInstance(node.right, ast.Constant)
                if isinstance(node, ast.Call):
                    self.assertFalse(any(isinstance(thing, ast.Starred) for thing in node.args))


if __name__ == "__main__":
    unittest.main()
