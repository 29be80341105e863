"""The package's files keep to the part of Python that the program is written in.

Told here are the rules that a walk over the syntax tree can see plainly.
"""

import ast
import builtins
import re
import unittest
from pathlib import Path

PACKAGE = Path(__file__).resolve().parent.parent / "boughpress"
FILES = sorted(PACKAGE.glob("*.py"))

OWN_NAMES = set(
    "len range enumerate zip min max sum abs sorted reversed int str bool list tuple dict set frozenset "
    "isinstance ord repr any all divmod Exception ValueError TypeError KeyError IndexError LookupError "
    "ZeroDivisionError ArithmeticError OverflowError RuntimeError NotImplementedError AttributeError "
    "StopIteration".split()
)
TWO_UNDERSCORES = {"__init__", "__eq__", "__repr__", "__str__", "__len__", "__all__", "__version__"}
WORDS = re.compile(
    r"\b(type|typing|typing_extensions|enum|Enum|IntEnum|StrEnum|Flag|IntFlag|Generic|Protocol|ABC|ABCMeta"
    r"|namedtuple|NamedTuple|TypedDict|TYPE_CHECKING|abstractmethod)\b|dataclass|overload|contextmanager"
)
METHODS = set(
    "append clear copy count endswith extend find get index insert isalnum isalpha isdigit islower isspace isupper "
    "items join keys ljust lower lstrip partition pop remove replace reverse rfind rjust rpartition rsplit rstrip "
    "setdefault split splitlines startswith strip update upper values zfill bit_length".split()
)
NOT_NAMES = set(
    "register mro elements open input version_info with_traceback add_note attrgetter breakpoint builtins compile "
    "copyright credits delattr dir eval exec exit gc getattr globals hasattr help id importlib license locals "
    "methodcaller os quit setattr super type vars sys format format_map".split()
)
KEYWORDS = {
    "sorted": {"key", "reverse"}, "min": {"key", "default"}, "max": {"key", "default"}, "sum": {"start"},
    "enumerate": {"start"}, "zip": {"strict"},
}
WALKS = {"zip", "enumerate", "reversed", "range", "items", "keys", "values"}
WALKERS = {"list", "tuple", "dict", "sorted", "sum", "any", "all", "enumerate", "zip", "min", "max", "join"}
NODES = (
    ast.Module, ast.ImportFrom, ast.alias, ast.FunctionDef, ast.Lambda, ast.arguments, ast.arg, ast.ClassDef,
    ast.Assign, ast.AugAssign, ast.If, ast.While, ast.For, ast.Return, ast.Break, ast.Continue, ast.Pass,
    ast.Raise, ast.Try, ast.ExceptHandler, ast.Expr, ast.Constant, ast.List, ast.Tuple, ast.Dict, ast.Set,
    ast.BinOp, ast.UnaryOp, ast.BoolOp, ast.Compare, ast.IfExp, ast.Call, ast.keyword, ast.Attribute,
    ast.Subscript, ast.Slice, ast.ListComp, ast.comprehension, ast.JoinedStr, ast.FormattedValue, ast.Name,
    ast.operator, ast.unaryop, ast.boolop, ast.cmpop, ast.expr_context,
)


def bound_names(tree):
    for node in ast.walk(tree):
        if isinstance(node, (ast.FunctionDef, ast.ClassDef)):
            yield node.name
        elif isinstance(node, ast.arg):
            yield node.arg
        elif isinstance(node, ast.Name) and isinstance(node.ctx, ast.Store):
            yield node.id


def place_of(node):
    return f"{node.file}, row {getattr(node, 'lineno', 0)}"


def called_name(node):
    if isinstance(node, ast.Call):
        return getattr(node.func, "id", getattr(node.func, "attr", None))
    return None


def own_members(trees):
    """The names of the package's own methods, and of the values that its objects keep."""
    methods = set()
    values = set()
    for tree in trees:
        for node in ast.walk(tree):
            if isinstance(node, ast.ClassDef):
                methods.update(part.name for part in node.body if isinstance(part, ast.FunctionDef))
            if isinstance(node, ast.Attribute) and isinstance(node.ctx, ast.Store):
                values.add(node.attr)
    return methods, values


class LanguageTest(unittest.TestCase):
    def each_file(self):
        told = []
        for path in FILES:
            text = path.read_bytes().decode("utf-8")
            tree = ast.parse(text)
            for node in ast.walk(tree):
                node.file = path.name
            told.append((path, text, tree))
        return told

    def test_the_folder_holds_plain_python_files_alone(self):
        self.assertIn("__init__.py", [path.name for path in FILES])
        for path in PACKAGE.iterdir():
            if path.name != "__pycache__":
                self.assertRegex(path.name, r"^(__init__|[a-z][a-z0-9_]*)\.py$")

    def test_signs_and_sizes(self):
        for _, text, tree in self.each_file():
            self.assertEqual([sign for sign in text if sign != "\n" and not " " <= sign <= "~"], [])
            rows = text.split("\n")
            self.assertLessEqual(len(rows), 400)
            self.assertLessEqual(max(len(row) for row in rows), 120)
            for node in ast.walk(tree):
                if isinstance(node, ast.FunctionDef):
                    self.assertLessEqual(node.end_lineno - node.lineno + 1, 40, node.name)

    def test_words_that_stand_nowhere(self):
        for _, text, _ in self.each_file():
            self.assertIsNone(WORDS.search(text))

    def test_imports_draw_on_the_very_file_and_never_in_a_ring(self):
        drawn = {}
        for path, _, tree in self.each_file():
            rows = [node for node in ast.walk(tree) if isinstance(node, ast.ImportFrom)]
            drawn[path.stem] = []
            for node in rows:
                self.assertIn(node, tree.body)
                self.assertEqual(node.level, 0)
                self.assertRegex(node.module, r"^boughpress\.[a-z0-9_]+$")
                source = PACKAGE / (node.module.split(".")[1] + ".py")
                defined = set()
                for statement in ast.parse(source.read_text()).body:
                    if isinstance(statement, (ast.FunctionDef, ast.ClassDef)):
                        defined.add(statement.name)
                    elif isinstance(statement, ast.Assign):
                        defined.add(statement.targets[0].id)
                for alias in node.names:
                    self.assertIn(alias.name, defined)
                drawn[path.stem].append(source.stem)
        while drawn:
            free = [name for name in drawn if not any(other in drawn for other in drawn[name])]
            self.assertTrue(free, f"a ring among {sorted(drawn)}")
            for name in free:
                del drawn[name]

    def test_statements_and_values(self):
        for _, _, tree in self.each_file():
            for node in ast.walk(tree):
                where = place_of(node)
                self.assertIsInstance(node, NODES, where)
                self.assertNotIsInstance(node, (ast.Div, ast.MatMult), where)
                if isinstance(node, ast.Expr) and node is not tree.body[0]:
                    self.assertIsInstance(node.value, ast.Call, where)
                if isinstance(node, ast.Assign):
                    self.assertEqual(len(node.targets), 1, where)
                if isinstance(node, (ast.For, ast.While)):
                    self.assertEqual(node.orelse, [], where)
                if isinstance(node, ast.Try):
                    self.assertEqual(node.finalbody, [], where)
                if isinstance(node, (ast.FunctionDef, ast.ClassDef)):
                    self.assertEqual(node.decorator_list, [], where)
                if isinstance(node, ast.arguments):
                    self.assertEqual((node.vararg, node.kwarg, node.kwonlyargs, node.posonlyargs), (None, None, [], []))
                if isinstance(node, ast.ListComp):
                    self.assertEqual(len(node.generators), 1, where)
                    self.assertLessEqual(len(node.generators[0].ifs), 1, where)

    def test_plain_values(self):
        for _, _, tree in self.each_file():
            for node in ast.walk(tree):
                if isinstance(node, ast.Constant):
                    self.assertIn(type(node.value), (int, str, bool, type(None)), place_of(node))
                    self.assertNotIn("%", str(node.value), place_of(node))
                if isinstance(node, ast.BinOp) and isinstance(node.op, ast.Pow):
                    self.assertIsInstance(node.right, ast.Constant, place_of(node))
                    self.assertIn(node.right.value, range(65), place_of(node))
                if isinstance(node, ast.Compare):
                    for operator, right in zip(node.ops, node.comparators):
                        if isinstance(operator, (ast.Is, ast.IsNot)):
                            self.assertIn(getattr(right, "value", 0), (None, True, False), place_of(node))

    def test_names(self):
        for _, _, tree in self.each_file():
            for name in bound_names(tree):
                if name not in TWO_UNDERSCORES:
                    self.assertFalse(name.startswith("_"), name)
                    self.assertFalse(hasattr(builtins, name), name)
            for node in ast.walk(tree):
                if isinstance(node, ast.Name) and hasattr(builtins, node.id):
                    self.assertIn(node.id, OWN_NAMES, place_of(node))

    def test_no_local_is_called_like_an_import_or_a_class(self):
        for _, _, tree in self.each_file():
            taken = {node.name for node in tree.body if isinstance(node, ast.ClassDef)}
            for node in tree.body:
                if isinstance(node, ast.ImportFrom):
                    taken.update(alias.name for alias in node.names)
            for node in ast.walk(tree):
                if isinstance(node, ast.arg):
                    self.assertNotIn(node.arg, taken)
                if isinstance(node, ast.Name) and isinstance(node.ctx, ast.Store):
                    self.assertNotIn(node.id, taken, place_of(node))

    def test_plain_words_as_names(self):
        for _, _, tree in self.each_file():
            for name in bound_names(tree):
                if name not in TWO_UNDERSCORES:
                    self.assertRegex(name, r"^[A-Za-z][A-Za-z0-9_]*$")
                self.assertNotIn(name, NOT_NAMES)
            for node in ast.walk(tree):
                if isinstance(node, ast.Attribute):
                    self.assertNotIn(node.attr, NOT_NAMES, place_of(node))

    def test_methods_and_values_of_objects(self):
        methods, values = own_members(tree for _, _, tree in self.each_file())
        self.assertEqual(methods & values, set())
        of_python = {name for kind in (str, int, list, dict, set, tuple, bytes) for name in dir(kind)}
        self.assertEqual((methods - TWO_UNDERSCORES) & of_python, set())
        self.assertEqual(values & of_python, set())
        for _, _, tree in self.each_file():
            for node in ast.walk(tree):
                if isinstance(node, ast.Attribute):
                    self.assertIn(node.attr, METHODS | methods | values, place_of(node))
                if isinstance(node, ast.ClassDef):
                    self.assertLessEqual(len(node.bases), 1)
                    for part in node.body:
                        self.assertIsInstance(part, (ast.FunctionDef, ast.Pass), place_of(part))

    def test_calls_and_walks(self):
        for _, _, tree in self.each_file():
            walked = set()
            for node in ast.walk(tree):
                if isinstance(node, (ast.For, ast.comprehension)):
                    walked.add(node.iter)
                if called_name(node) in WALKERS:
                    walked.update(node.args)
                if isinstance(node, ast.Call) and isinstance(node.func, ast.Name) and node.func.id in OWN_NAMES:
                    for keyword in node.keywords:
                        self.assertIn(keyword.arg, KEYWORDS.get(node.func.id, ()), place_of(node))
            for node in ast.walk(tree):
                if called_name(node) in WALKS:
                    self.assertIn(node, walked, place_of(node))

    def test_names_are_bound_once_at_the_top(self):
        for _, _, tree in self.each_file():
            bound = []
            for node in tree.body:
                if isinstance(node, (ast.FunctionDef, ast.ClassDef)):
                    bound.append(node.name)
                elif isinstance(node, ast.ImportFrom):
                    bound.extend(alias.name for alias in node.names)
                elif isinstance(node, ast.Assign):
                    bound.append(node.targets[0].id)
                else:
                    self.assertIs(node, tree.body[0])
                    self.assertIsInstance(node.value, ast.Constant)
            self.assertEqual(len(bound), len(set(bound)))


if __name__ == "__main__":
    unittest.main()
