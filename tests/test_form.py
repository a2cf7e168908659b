"""The form of the package: those rules of LANGUAGE.md that are quickly asked."""

import ast
import builtins
import pathlib
import re
import unittest

PACKAGE = pathlib.Path(__file__).resolve().parent.parent / "ribbonloft"
BARRED_NODES = (
    ast.With, ast.Match, ast.Global, ast.Nonlocal, ast.Yield, ast.YieldFrom, ast.AsyncFunctionDef,
    ast.Await, ast.GeneratorExp, ast.NamedExpr, ast.Import, ast.Div,
)
BARRED_WORDS = re.compile(
    r"\b(type|typing|typing_extensions|enum|Enum|IntEnum|StrEnum|Flag|IntFlag|Generic|Protocol|ABC"
    r"|ABCMeta|namedtuple|NamedTuple|TypedDict|TYPE_CHECKING|abstractmethod)\b"
    r"|dataclass|overload|contextmanager"
)
BUILTINS = set(
    "len range enumerate zip min max sum abs sorted reversed int str bool bytes list tuple dict set"
    " frozenset isinstance ord repr any all divmod Exception ValueError TypeError KeyError IndexError"
    " LookupError ZeroDivisionError ArithmeticError OverflowError RuntimeError NotImplementedError"
    " AttributeError StopIteration".split()
)
DOUBLE = {"__init__", "__eq__", "__repr__", "__str__", "__len__"}


class FormTest(unittest.TestCase):
    def setUp(self):
        self.files = {path.name: path.read_text("ascii") for path in sorted(PACKAGE.glob("*.py"))}
        self.trees = {name: ast.parse(text) for name, text in self.files.items()}

    def nodes(self):
        return [(name, node) for name, tree in self.trees.items() for node in ast.walk(tree)]

    def test_the_folder_has_python_files_only(self):
        others = [
            path.name for path in PACKAGE.iterdir()
            if path.suffix != ".py" and path.name != "__pycache__"
        ]
        self.assertEqual(others, [])
        self.assertIn("__init__.py", self.files)

    def test_characters_words_and_sizes(self):
        for name, text in self.files.items():
            self.assertLessEqual(len(text.splitlines()), 400, name)
            for line in text.splitlines():
                self.assertLessEqual(len(line), 120, (name, line))
                self.assertRegex(line, r"^[ -~]*$", name)
                self.assertIsNone(BARRED_WORDS.search(line), (name, line))

    def test_statements_and_expressions(self):
        for name, node in self.nodes():
            at = (name, getattr(node, "lineno", None), ast.dump(node)[:80])
            self.assertNotIsInstance(node, BARRED_NODES, at)
            if isinstance(node, (ast.For, ast.While)):
                self.assertEqual(node.orelse, [], at)
            if isinstance(node, ast.Constant):
                self.assertNotIsInstance(node.value, float, at)
                self.assertNotIn("%", str(node.value), at)
            if isinstance(node, ast.ImportFrom):
                self.assertEqual(node.level, 0, at)
                self.assertTrue(node.module.startswith("ribbonloft."), at)

    def test_functions(self):
        for name, node in self.nodes():
            if isinstance(node, ast.FunctionDef):
                self.assertLessEqual(node.end_lineno - node.lineno + 1, 40, (name, node.name))
                self.assertEqual(node.decorator_list, [], (name, node.name))
                handed = node.args
                self.assertIsNone(handed.vararg or handed.kwarg, (name, node.name))
                self.assertEqual(handed.posonlyargs, [], (name, node.name))
                self.assertTrue(node.name in DOUBLE or not node.name.startswith("_"), node.name)

    def test_names(self):
        for name, tree in self.trees.items():
            bound = [
                alias.asname or alias.name
                for node in ast.walk(tree) if isinstance(node, ast.ImportFrom) for alias in node.names
            ]
            bound += [node.name for node in tree.body if isinstance(node, ast.ClassDef)]
            stored = [
                node.id for node in ast.walk(tree)
                if isinstance(node, ast.Name) and isinstance(node.ctx, ast.Store)
            ]
            stored += [node.arg for node in ast.walk(tree) if isinstance(node, ast.arg)]
            for local in stored:
                self.assertNotIn(local, bound, name)
                self.assertFalse(local.startswith("_"), (name, local))
                self.assertFalse(hasattr(builtins, local), (name, local))

    def test_no_builtin_beyond_the_listed_ones(self):
        for name, node in self.nodes():
            if isinstance(node, ast.Name) and hasattr(builtins, node.id):
                self.assertIn(node.id, BUILTINS, (name, node.lineno))


if __name__ == "__main__":
    unittest.main()
