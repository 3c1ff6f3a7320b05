"""What of the language's rules can be seen file by file; the rules' numbers stand in the tests' names."""

import ast
import builtins
import pathlib
import re
import unittest

import handpromise

FOLDER = pathlib.Path(handpromise.__file__).parent
FILES = sorted(path for path in FOLDER.iterdir() if path.name != "__pycache__")
OWN_NAMES = set(
    "len range enumerate zip min max sum abs sorted reversed int str bool list tuple dict set frozenset isinstance ord "
    "repr any all divmod Exception ValueError TypeError KeyError IndexError LookupError ZeroDivisionError "
    "ArithmeticError OverflowError RuntimeError NotImplementedError AttributeError StopIteration".split()
)
METHODS = set(
    "append clear copy count endswith extend find get index insert isalnum isalpha isdigit islower isspace isupper "
    "items join keys ljust lower lstrip partition pop remove replace reverse rfind rjust rpartition rsplit rstrip "
    "setdefault split splitlines startswith strip update upper values zfill bit_length".split()
)
NODES = set(
    "Module Import ImportFrom alias FunctionDef ClassDef arguments arg Assign AugAssign If While For Return Break "
    "Continue Pass Raise Try ExceptHandler Expr Call keyword Name Attribute Subscript Slice Constant List Tuple Dict "
    "Set BinOp UnaryOp BoolOp Compare IfExp ListComp comprehension JoinedStr FormattedValue Lambda Load Store Add Sub "
    "Mult FloorDiv Mod Pow BitAnd BitOr BitXor Invert LShift RShift And Or Not USub Eq NotEq Lt LtE Gt GtE Is IsNot In "
    "NotIn".split()
)
WORDS = re.compile(
    r"\b(type|typing|typing_extensions|enum|Enum|IntEnum|StrEnum|Flag|IntFlag|Generic|Protocol|ABC|ABCMeta|namedtuple"
    r"|NamedTuple|TypedDict|TYPE_CHECKING|abstractmethod)\b|dataclass|overload|contextmanager"
)
DUNDERS = ("__init__", "__eq__", "__repr__", "__str__", "__len__")

TEXTS = {path.name: path.read_text(encoding="utf-8") for path in FILES}
TREES = {name: ast.parse(text) for name, text in TEXTS.items()}
NODES_OF = [(name, node) for name, tree in TREES.items() for node in ast.walk(tree)]


def bound_names(tree):
    for node in ast.walk(tree):
        if isinstance(node, (ast.FunctionDef, ast.ClassDef)):
            yield node.name
        elif isinstance(node, ast.arg):
            yield node.arg
        elif isinstance(node, ast.Name) and isinstance(node.ctx, ast.Store):
            yield node.id
        elif isinstance(node, ast.ImportFrom):
            yield from [alias.asname or alias.name for alias in node.names]


class TestForm(unittest.TestCase):
    def test_l1_l14_file_names(self):
        for path in FILES:
            with self.subTest(file=path.name):
                self.assertRegex(path.name, r"\A(__init__|[a-z][a-z0-9_]*)\.py\Z")
                self.assertNotIn(path.stem, OWN_NAMES)

    def test_l10_l14_l17_sizes_signs_words(self):
        for name, text in TEXTS.items():
            with self.subTest(file=name):
                rows = text.split("\n")
                self.assertLessEqual(len(rows), 400)
                self.assertLessEqual(max(len(row) for row in rows), 120)
                self.assertRegex(text, r"\A[ -~\n]*\Z")
                self.assertIsNone(WORDS.search(text))
        for name, node in NODES_OF:
            if isinstance(node, ast.FunctionDef):
                self.assertLessEqual(node.end_lineno - node.lineno + 1, 40, (name, node.name))

    def test_l2_l16_imports(self):
        for name, node in NODES_OF:
            self.assertNotIsInstance(node, ast.Import, name)
            if isinstance(node, ast.ImportFrom):
                self.assertIn(node, TREES[name].body, name)
                self.assertEqual(node.level, 0, name)
                self.assertRegex(node.module, r"\Ahandpromise\.[a-z_]+\Z", name)
                self.assertNotIn("*", [alias.name for alias in node.names], name)

    def test_l6_l7_statements_and_expressions(self):
        for name, node in NODES_OF:
            where = (name, getattr(node, "lineno", 0))
            self.assertIn(node.__class__.__name__, NODES, where)
            if isinstance(node, ast.Assign):
                self.assertEqual(len(node.targets), 1, where)
            if isinstance(node, (ast.For, ast.While)):
                self.assertEqual(node.orelse, [], where)
            if isinstance(node, ast.Constant):
                self.assertIsInstance(node.value, (int, str, type(None)), where)
            if isinstance(node, ast.ListComp):
                self.assertEqual(len(node.generators), 1, where)
                self.assertLessEqual(len(node.generators[0].ifs), 1, where)

    def test_l4_functions_have_plain_parameters(self):
        for name, node in NODES_OF:
            if isinstance(node, (ast.FunctionDef, ast.ClassDef)):
                self.assertEqual(node.decorator_list, [], (name, node.name))
            if isinstance(node, ast.arguments):
                starred = (node.vararg, node.kwarg, node.kwonlyargs, node.posonlyargs)
                self.assertEqual(starred, (None, None, [], []), name)

    def test_l8_l12_l15_names(self):
        for file, tree in TREES.items():
            bound = set(bound_names(tree))
            for name in bound - set(DUNDERS):
                self.assertRegex(name, r"\A[A-Za-z][A-Za-z0-9_]*\Z", file)
                self.assertNotIn(name, dir(builtins), file)
            for node in ast.walk(tree):
                if isinstance(node, ast.Name):
                    self.assertIn(node.id, bound | OWN_NAMES, file)

    def test_l25_methods(self):
        classes = [node for name, node in NODES_OF if isinstance(node, ast.ClassDef)]
        own = {inner.name for node in classes for inner in node.body if isinstance(inner, ast.FunctionDef)}
        for name, node in NODES_OF:
            if isinstance(node, ast.Call) and isinstance(node.func, ast.Attribute):
                self.assertIn(node.func.attr, METHODS | own, name)


if __name__ == "__main__":
    unittest.main()
