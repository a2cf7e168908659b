"""The form of the package: those rules of LANGUAGE.md that are quickly asked."""

import ast
import builtins
import pathlib
import re
import unittest

PACKAGE = pathlib.Path(__file__).resolve().parent.parent / "ribbonloft"
BARRED_NODES = (
    ast.With, ast.Match, ast.Global, ast.Nonlocal, ast.Yield, ast.YieldFrom, ast.AsyncFunctionDef,
    ast.Await, ast.GeneratorExp, ast.NamedExpr, ast.Import, ast.Div,
)
BARRED_WORDS = re.compile(
    r"\b(type|typing|typing_extensions|enum|Enum|IntEnum|StrEnum|Flag|IntFlag|Generic|Protocol|ABC"
    r"|ABCMeta|namedtuple|NamedTuple|TypedDict|TYPE_CHECKING|abstractmethod)\b"
    r"|dataclass|overload|contextmanager"
)
BUILTINS = set(
    "len range enumerate zip min max sum abs sorted reversed int str bool bytes list tuple dict set"
    " frozenset isinstance ord repr any all divmod Exception ValueError TypeError KeyError IndexError"
    " LookupError ZeroDivisionError ArithmeticError OverflowError RuntimeError NotImplementedError"
    " AttributeError StopIteration".split()
)
DOUBLE = {"__init__", "__eq__", "__repr__", "__str__", "__len__"}
METHODS = set(
    "append clear copy count endswith extend find get index insert isalnum isalpha isdigit islower isspace"
    " isupper items join keys ljust lower lstrip partition pop remove replace reverse rfind rjust rpartition"
    " rsplit rstrip setdefault split splitlines startswith strip update upper values zfill bit_length"
    " removeprefix removesuffix".split()
)
PLAIN_VALUES = (ast.Constant, ast.List, ast.Tuple, ast.Dict, ast.Name, ast.Load)


class FormTest(unittest.TestCase):
    def setUp(self):
        self.files = {path.name: path.read_text("ascii") for path in sorted(PACKAGE.glob("*.py"))}
        self.trees = {name: ast.parse(text) for name, text in self.files.items()}

    def nodes(self):
        return [(name, node) for name, tree in self.trees.items() for node in ast.walk(tree)]

    def test_the_folder_has_python_files_only(self):
        others = [
            path.name for path in PACKAGE.iterdir()
            if path.suffix != ".py" and path.name != "__pycache__"
        ]
        self.assertEqual(others, [])
        self.assertIn("__init__.py", self.files)

    def test_characters_words_and_sizes(self):
        for name, text in self.files.items():
            self.assertLessEqual(len(text.splitlines()), 400, name)
            for line in text.splitlines():
                self.assertLessEqual(len(line), 120, (name, line))
                self.assertRegex(line, r"^[ -~]*$", name)
                self.assertIsNone(BARRED_WORDS.search(line), (name, line))

    def test_statements_and_expressions(self):
        for name, node in self.nodes():
            at = (name, getattr(node, "lineno", None), ast.dump(node)[:80])
            self.assertNotIsInstance(node, BARRED_NODES, at)
            if isinstance(node, (ast.For, ast.While)):
                self.assertEqual(node.orelse, [], at)
            if isinstance(node, ast.Constant):
                self.assertNotIsInstance(node.value, float, at)
                self.assertNotIn("%", str(node.value), at)
            if isinstance(node, ast.ImportFrom):
                self.assertEqual(node.level, 0, at)
                self.assertTrue(node.module.startswith("ribbonloft."), at)

    def test_functions(self):
        for name, node in self.nodes():
            if isinstance(node, ast.FunctionDef):
                self.assertLessEqual(node.end_lineno - node.lineno + 1, 40, (name, node.name))
                self.assertEqual(node.decorator_list, [], (name, node.name))
                handed = node.args
                self.assertIsNone(handed.vararg or handed.kwarg, (name, node.name))
                self.assertEqual(handed.posonlyargs, [], (name, node.name))
                self.assertTrue(node.name in DOUBLE or not node.name.startswith("_"), node.name)

    def test_names(self):
        for name, tree in self.trees.items():
            bound = [
                alias.asname or alias.name
                for node in ast.walk(tree) if isinstance(node, ast.ImportFrom) for alias in node.names
            ]
            bound += [node.name for node in tree.body if isinstance(node, ast.ClassDef)]
            stored = [
                node.id for node in ast.walk(tree)
                if isinstance(node, ast.Name) and isinstance(node.ctx, ast.Store)
            ]
            stored += [node.arg for node in ast.walk(tree) if isinstance(node, ast.arg)]
            for local in stored:
                self.assertNotIn(local, bound, name)
                self.assertFalse(local.startswith("_"), (name, local))
                self.assertFalse(hasattr(builtins, local), (name, local))

    def test_no_builtin_beyond_the_listed_ones(self):
        for name, node in self.nodes():
            if isinstance(node, ast.Name) and hasattr(builtins, node.id):
                self.assertIn(node.id, BUILTINS, (name, node.lineno))

    def test_module_level(self):
        for name, tree in self.trees.items():
            for node in tree.body:
                at = (name, node.lineno)
                if isinstance(node, ast.Assign):
                    inner = list(ast.walk(node.value))
                    self.assertTrue(all(isinstance(one, PLAIN_VALUES) for one in inner), at)
                elif isinstance(node, ast.Expr):
                    self.assertIsInstance(node.value, ast.Constant, at)
                else:
                    self.assertIsInstance(node, (ast.ImportFrom, ast.FunctionDef, ast.ClassDef), at)

    def test_each_name_is_bound_once_at_module_level(self):
        for name, tree in self.trees.items():
            bound = []
            for node in tree.body:
                if isinstance(node, ast.ImportFrom):
                    bound += [alias.asname or alias.name for alias in node.names]
                elif isinstance(node, ast.Assign):
                    bound += [target.id for target in node.targets]
                elif isinstance(node, (ast.FunctionDef, ast.ClassDef)):
                    bound.append(node.name)
            self.assertEqual(len(bound), len(set(bound)), name)

    def test_imports_name_the_file_that_defines_the_name_and_never_go_round(self):
        needs = {}
        for name, tree in self.trees.items():
            found = [node for node in ast.walk(tree) if isinstance(node, ast.ImportFrom)]
            needs[name] = [node.module.split(".")[1] + ".py" for node in found]
            for node, file in zip(found, needs[name]):
                defined = [
                    one.name if isinstance(one, (ast.FunctionDef, ast.ClassDef)) else one.targets[0].id
                    for one in self.trees[file].body if isinstance(one, (ast.FunctionDef, ast.ClassDef, ast.Assign))
                ]
                for alias in node.names:
                    self.assertIn(alias.name, defined, (name, file))
        while needs:
            free = [name for name in needs if not any(file in needs for file in needs[name])]
            self.assertTrue(free, needs)
            needs = {name: files for name, files in needs.items() if name not in free}

    def test_methods_and_attributes(self):
        methods, assigned, read, called = set(), set(), set(), set()
        for name, node in self.nodes():
            if isinstance(node, ast.ClassDef):
                own = [one for one in node.body if isinstance(one, ast.FunctionDef)]
                others = [one for one in node.body if one not in own]
                self.assertTrue(all(isinstance(one, ast.Expr) for one in others), (name, node.name))
                self.assertLessEqual(len(node.bases), 1, (name, node.name))
                methods.update(one.name for one in own)
            if isinstance(node, ast.Call) and isinstance(node.func, ast.Attribute):
                called.add(node.func.attr)
            if isinstance(node, ast.Attribute):
                (assigned if isinstance(node.ctx, ast.Store) else read).add(node.attr)
        self.assertEqual(methods & assigned, set())
        self.assertEqual(called - methods - METHODS, set())
        self.assertEqual(read - called - assigned, set())
        builtin = {name for kind in (str, int, list, dict, set, bytes, tuple) for name in dir(kind)}
        self.assertEqual((methods | assigned) & builtin, {"__init__"})

    def test_errors_are_raised_on_the_spot_and_caught_by_name(self):
        for name, node in self.nodes():
            if isinstance(node, ast.Raise) and node.exc is not None:
                self.assertIsInstance(node.exc, ast.Call, (name, node.lineno))
                self.assertIsInstance(node.exc.func, ast.Name, (name, node.lineno))
            if isinstance(node, ast.ExceptHandler):
                self.assertIsInstance(node.type, ast.Name, (name, node.lineno))
                self.assertNotIn(node.type.id, ("Exception", "TypeError"), (name, node.lineno))


if __name__ == "__main__":
    unittest.main()
