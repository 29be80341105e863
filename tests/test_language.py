"""The package's files keep to the part of Python that the program is written in.

Told here are the rules that a walk over the syntax tree can see plainly.
"""

import ast
import builtins
import re
import unittest
from pathlib import Path

PACKAGE = Path(__file__).resolve().parent.parent / "boughpress"
FILES = sorted(PACKAGE.glob("*.py"))

OWN_NAMES = set(
    "len range enumerate zip min max sum abs sorted reversed int str bool list tuple dict set frozenset "
    "isinstance ord repr any all divmod Exception ValueError TypeError KeyError IndexError LookupError "
    "ZeroDivisionError ArithmeticError OverflowError RuntimeError NotImplementedError AttributeError "
    "StopIteration".split()
)
TWO_UNDERSCORES = {"__init__", "__eq__", "__repr__", "__str__", "__len__", "__all__", "__version__"}
WORDS = re.compile(
    r"\b(type|typing|typing_extensions|enum|Enum|IntEnum|StrEnum|Flag|IntFlag|Generic|Protocol|ABC|ABCMeta"
    r"|namedtuple|NamedTuple|TypedDict|TYPE_CHECKING|abstractmethod)\b|dataclass|overload|contextmanager"
)
NODES = (
    ast.Module, ast.ImportFrom, ast.alias, ast.FunctionDef, ast.Lambda, ast.arguments, ast.arg, ast.ClassDef,
    ast.Assign, ast.AugAssign, ast.If, ast.While, ast.For, ast.Return, ast.Break, ast.Continue, ast.Pass,
    ast.Raise, ast.Try, ast.ExceptHandler, ast.Expr, ast.Constant, ast.List, ast.Tuple, ast.Dict, ast.Set,
    ast.BinOp, ast.UnaryOp, ast.BoolOp, ast.Compare, ast.IfExp, ast.Call, ast.keyword, ast.Attribute,
    ast.Subscript, ast.Slice, ast.ListComp, ast.comprehension, ast.JoinedStr, ast.FormattedValue, ast.Name,
    ast.operator, ast.unaryop, ast.boolop, ast.cmpop, ast.expr_context,
)


def bound_names(tree):
    for node in ast.walk(tree):
        if isinstance(node, (ast.FunctionDef, ast.ClassDef)):
            yield node.name
        elif isinstance(node, ast.arg):
            yield node.arg
        elif isinstance(node, ast.Name) and isinstance(node.ctx, ast.Store):
            yield node.id


class LanguageTest(unittest.TestCase):
    def each_file(self):
        for path in FILES:
            text = path.read_bytes().decode("utf-8")
            with self.subTest(file=path.name):
                yield path, text, ast.parse(text)

    def test_the_folder_holds_plain_python_files_alone(self):
        self.assertIn("__init__.py", [path.name for path in FILES])
        for path in PACKAGE.iterdir():
            if path.name != "__pycache__":
                self.assertRegex(path.name, r"^(__init__|[a-z][a-z0-9_]*)\.py$")

    def test_signs_and_sizes(self):
        for _, text, tree in self.each_file():
            self.assertEqual([sign for sign in text if sign != "\n" and not " " <= sign <= "~"], [])
            rows = text.split("\n")
            self.assertLessEqual(len(rows), 400)
            self.assertLessEqual(max(len(row) for row in rows), 120)
            for node in ast.walk(tree):
                if isinstance(node, ast.FunctionDef):
                    self.assertLessEqual(node.end_lineno - node.lineno + 1, 40, node.name)

    def test_words_that_stand_nowhere(self):
        for _, text, _ in self.each_file():
            self.assertIsNone(WORDS.search(text))

    def test_imports_draw_on_the_very_file_and_never_in_a_ring(self):
        drawn = {}
        for path, _, tree in self.each_file():
            rows = [node for node in ast.walk(tree) if isinstance(node, ast.ImportFrom)]
            drawn[path.stem] = []
            for node in rows:
                self.assertIn(node, tree.body)
                self.assertEqual(node.level, 0)
                self.assertRegex(node.module, r"^boughpress\.[a-z0-9_]+$")
                source = PACKAGE / (node.module.split(".")[1] + ".py")
                defined = set()
                for statement in ast.parse(source.read_text()).body:
                    if isinstance(statement, (ast.FunctionDef, ast.ClassDef)):
                        defined.add(statement.name)
                    elif isinstance(statement, ast.Assign):
                        defined.add(statement.targets[0].id)
                for alias in node.names:
                    self.assertIn(alias.name, defined)
                drawn[path.stem].append(source.stem)
        while drawn:
            free = [name for name in drawn if not any(other in drawn for other in drawn[name])]
            self.assertTrue(free, f"a ring among {sorted(drawn)}")
            for name in free:
                del drawn[name]

    def test_statements_and_values(self):
        for _, _, tree in self.each_file():
            for node in ast.walk(tree):
                where = f"row {getattr(node, 'lineno', 0)}"
                self.assertIsInstance(node, NODES, where)
                self.assertNotIsInstance(node, (ast.Div, ast.MatMult), where)
                if isinstance(node, ast.Assign):
                    self.assertEqual(len(node.targets), 1, where)
                if isinstance(node, (ast.For, ast.While)):
                    self.assertEqual(node.orelse, [], where)
                if isinstance(node, ast.Try):
                    self.assertEqual(node.finalbody, [], where)
                if isinstance(node, (ast.FunctionDef, ast.ClassDef)):
                    self.assertEqual(node.decorator_list, [], where)
                if isinstance(node, ast.arguments):
                    self.assertEqual((node.vararg, node.kwarg, node.kwonlyargs, node.posonlyargs), (None, None, [], []))
                if isinstance(node, ast.ListComp):
                    self.assertEqual(len(node.generators), 1, where)
                    self.assertLessEqual(len(node.generators[0].ifs), 1, where)

    def test_plain_values(self):
        for _, _, tree in self.each_file():
            for node in ast.walk(tree):
                if isinstance(node, ast.Constant):
                    self.assertIn(type(node.value), (int, str, bool, type(None)), f"row {node.lineno}")
                    self.assertNotIn("%", str(node.value), f"row {node.lineno}")
                if isinstance(node, ast.BinOp) and isinstance(node.op, ast.Pow):
                    self.assertIsInstance(node.right, ast.Constant, f"row {node.lineno}")
                    self.assertIn(node.right.value, range(65), f"row {node.lineno}")
                if isinstance(node, ast.Compare):
                    for operator, right in zip(node.ops, node.comparators):
                        if isinstance(operator, (ast.Is, ast.IsNot)):
                            self.assertIn(getattr(right, "value", 0), (None, True, False), f"row {node.lineno}")

    def test_names(self):
        for _, _, tree in self.each_file():
            for name in bound_names(tree):
                if name not in TWO_UNDERSCORES:
                    self.assertFalse(name.startswith("_"), name)
                    self.assertFalse(hasattr(builtins, name), name)
            for node in ast.walk(tree):
                if isinstance(node, ast.Name) and hasattr(builtins, node.id):
                    self.assertIn(node.id, OWN_NAMES, f"row {node.lineno}")

    def test_names_are_bound_once_at_the_top(self):
        for _, _, tree in self.each_file():
            bound = []
            for node in tree.body:
                if isinstance(node, (ast.FunctionDef, ast.ClassDef)):
                    bound.append(node.name)
                elif isinstance(node, ast.ImportFrom):
                    bound.extend(alias.name for alias in node.names)
                elif isinstance(node, ast.Assign):
                    bound.append(node.targets[0].id)
                else:
                    self.assertIs(node, tree.body[0])
                    self.assertIsInstance(node.value, ast.Constant)
            self.assertEqual(len(bound), len(set(bound)))


if __name__ == "__main__":
    unittest.main()
