"""What of the language's rules can be seen file by file; the rules' numbers stand in the tests' names."""

import ast
import builtins
import pathlib
import re
import unittest

import handpromise

FOLDER = pathlib.Path(handpromise.__file__).parent
FILES = sorted(path for path in FOLDER.iterdir() if path.name != "__pycache__")
OWN_NAMES = set(
    "len range enumerate zip min max sum abs sorted reversed int str bool list tuple dict set frozenset isinstance ord "
    "repr any all divmod Exception ValueError TypeError KeyError IndexError LookupError ZeroDivisionError "
    "ArithmeticError OverflowError RuntimeError NotImplementedError AttributeError StopIteration".split()
)
METHODS = set(
    "append clear copy count endswith extend find get index insert isalnum isalpha isdigit islower isspace isupper "
    "items join keys ljust lower lstrip partition pop remove replace reverse rfind rjust rpartition rsplit rstrip "
    "setdefault split splitlines startswith strip update upper values zfill bit_length".split()
)
NODES = set(
    "Module Import ImportFrom alias FunctionDef ClassDef arguments arg Assign AugAssign If While For Return Break "
    "Continue Pass Raise Try ExceptHandler Expr Call keyword Name Attribute Subscript Slice Constant List Tuple Dict "
    "Set BinOp UnaryOp BoolOp Compare IfExp ListComp comprehension JoinedStr FormattedValue Lambda Load Store Add Sub "
    "Mult FloorDiv Mod Pow BitAnd BitOr BitXor Invert LShift RShift And Or Not USub Eq NotEq Lt LtE Gt GtE Is IsNot In "
    "NotIn".split()
)
WORDS = re.compile(
    r"\b(type|typing|typing_extensions|enum|Enum|IntEnum|StrEnum|Flag|IntFlag|Generic|Protocol|ABC|ABCMeta|namedtuple"
    r"|NamedTuple|TypedDict|TYPE_CHECKING|abstractmethod)\b|dataclass|overload|contextmanager"
)
DUNDERS = ("__init__", "__eq__", "__repr__", "__str__", "__len__")

TEXTS = {path.name: path.read_text(encoding="utf-8") for path in FILES}
TREES = {name: ast.parse(text) for name, text in TEXTS.items()}
NODES_OF = [(name, node) for name, tree in TREES.items() for node in ast.walk(tree)]

CLASSES = [node for name, node in NODES_OF if isinstance(node, ast.ClassDef)]
OWN_METHODS = {inner.name for node in CLASSES for inner in node.body if isinstance(inner, ast.FunctionDef)}
WITH_PARENTS = [(name, node, parent) for name, parent in NODES_OF for node in ast.iter_child_nodes(parent)]


def is_call_of(node, names):
    return isinstance(node, ast.Call) and isinstance(node.func, ast.Name) and node.func.id in names


def is_plain_value(node):
    if isinstance(node, (ast.List, ast.Tuple)):
        return all(is_plain_value(inner) for inner in node.elts)
    if isinstance(node, ast.Dict):
        return all(is_plain_value(inner) for inner in node.keys + node.values)
    return isinstance(node, ast.Constant)


def bound_names(tree):
    for node in ast.walk(tree):
        if isinstance(node, (ast.FunctionDef, ast.ClassDef)):
            yield node.name
        elif isinstance(node, ast.arg):
            yield node.arg
        elif isinstance(node, ast.Name) and isinstance(node.ctx, ast.Store):
            yield node.id
        elif isinstance(node, ast.ImportFrom):
            yield from [alias.asname or alias.name for alias in node.names]


class TestForm(unittest.TestCase):
    def test_l1_l14_file_names(self):
        for path in FILES:
            with self.subTest(file=path.name):
                self.assertRegex(path.name, r"\A(__init__|[a-z][a-z0-9_]*)\.py\Z")
                self.assertNotIn(path.stem, OWN_NAMES)

    def test_l10_l14_l17_sizes_signs_words(self):
        for name, text in TEXTS.items():
            with self.subTest(file=name):
                rows = text.split("\n")
                self.assertLessEqual(len(rows), 400)
                self.assertLessEqual(max(len(row) for row in rows), 120)
                self.assertRegex(text, r"\A[ -~\n]*\Z")
                self.assertIsNone(WORDS.search(text))
        for name, node in NODES_OF:
            if isinstance(node, ast.FunctionDef):
                self.assertLessEqual(node.end_lineno - node.lineno + 1, 40, (name, node.name))

    def test_l2_l16_imports(self):
        for name, node in NODES_OF:
            self.assertNotIsInstance(node, ast.Import, name)
            if isinstance(node, ast.ImportFrom):
                self.assertIn(node, TREES[name].body, name)
                self.assertEqual(node.level, 0, name)
                self.assertRegex(node.module, r"\Ahandpromise\.[a-z_]+\Z", name)
                self.assertNotIn("*", [alias.name for alias in node.names], name)

    def test_l6_l7_statements_and_expressions(self):
        for name, node in NODES_OF:
            where = (name, getattr(node, "lineno", 0))
            self.assertIn(node.__class__.__name__, NODES, where)
            if isinstance(node, ast.Assign):
                self.assertEqual(len(node.targets), 1, where)
            if isinstance(node, (ast.For, ast.While)):
                self.assertEqual(node.orelse, [], where)
            if isinstance(node, ast.Constant):
                self.assertIsInstance(node.value, (int, str, type(None)), where)
            if isinstance(node, ast.ListComp):
                self.assertEqual(len(node.generators), 1, where)
                self.assertLessEqual(len(node.generators[0].ifs), 1, where)

    def test_l4_functions_have_plain_parameters(self):
        for name, node in NODES_OF:
            if isinstance(node, (ast.FunctionDef, ast.ClassDef)):
                self.assertEqual(node.decorator_list, [], (name, node.name))
            if isinstance(node, ast.arguments):
                starred = (node.vararg, node.kwarg, node.kwonlyargs, node.posonlyargs)
                self.assertEqual(starred, (None, None, [], []), name)

    def test_l8_l12_l15_names(self):
        for file, tree in TREES.items():
            bound = set(bound_names(tree))
            for name in bound - set(DUNDERS):
                self.assertRegex(name, r"\A[A-Za-z][A-Za-z0-9_]*\Z", file)
                self.assertNotIn(name, dir(builtins), file)
            for node in ast.walk(tree):
                if isinstance(node, ast.Name):
                    self.assertIn(node.id, bound | OWN_NAMES, file)

    def test_l15_locals_are_not_called_like_imports_or_classes(self):
        for file, tree in TREES.items():
            imports = [alias.name for node in tree.body if isinstance(node, ast.ImportFrom) for alias in node.names]
            at_top = imports + [node.name for node in tree.body if isinstance(node, (ast.FunctionDef, ast.ClassDef))]
            at_top += [target.id for node in tree.body if isinstance(node, ast.Assign) for target in node.targets]
            self.assertEqual(len(set(at_top)), len(at_top), file)
            for node in ast.walk(tree):
                if isinstance(node, ast.FunctionDef):
                    own = set(bound_names(node)) - {node.name}
                    self.assertEqual(own & set(at_top), set(), (file, node.name))

    def test_l16_names_come_from_the_file_that_defines_them(self):
        drawn = {}
        for file, tree in TREES.items():
            rows = [node for node in tree.body if isinstance(node, ast.ImportFrom)]
            drawn[file] = [node.module.split(".")[1] + ".py" for node in rows]
            for node, source in zip(rows, drawn[file]):
                defined = {inner.name for inner in TREES[source].body if hasattr(inner, "name")}
                assigned = [inner.targets[0].id for inner in TREES[source].body if isinstance(inner, ast.Assign)]
                self.assertLessEqual({alias.name for alias in node.names}, defined | set(assigned), file)
        # Each time, a file that draws from none of those left is taken away; a round would stay.
        while drawn:
            free = [file for file in drawn if not set(drawn[file]) & set(drawn)]
            self.assertNotEqual(free, [])
            drawn = {file: sources for file, sources in drawn.items() if file not in free}

    def test_l19_errors(self):
        own = [node.name for node in TREES["errors.py"].body if isinstance(node, ast.ClassDef)]
        for name, node in NODES_OF:
            if isinstance(node, ast.ExceptHandler):
                taken = node.type.elts if isinstance(node.type, ast.Tuple) else [node.type]
                for one in taken:
                    self.assertIn(one.id, own + ["KeyError", "ZeroDivisionError", "StopIteration"], name)
            if isinstance(node, ast.Raise):
                self.assertIsInstance(node.exc, ast.Call, name)

    def test_l20_is_beside_none_true_false_alone(self):
        for name, node in NODES_OF:
            if isinstance(node, ast.Compare) and any(isinstance(op, (ast.Is, ast.IsNot)) for op in node.ops):
                beside = [side for side in [node.left] + node.comparators if isinstance(side, ast.Constant)]
                self.assertTrue(any(side.value in (None, True, False) for side in beside), (name, node.lineno))

    def test_l21_no_annotations(self):
        for name, node in NODES_OF:
            self.assertIsNone(getattr(node, "annotation", None), name)
            self.assertIsNone(getattr(node, "returns", None), name)

    def test_l23_walked_at_once(self):
        walkers = ("list", "tuple", "dict", "sorted", "sum", "any", "all", "enumerate", "zip", "min", "max")
        for name, node, parent in WITH_PARENTS:
            if is_call_of(node, ("zip", "enumerate", "reversed", "range")):
                walked = isinstance(parent, (ast.For, ast.comprehension)) and parent.iter is node
                self.assertTrue(walked or is_call_of(parent, walkers), (name, node.lineno))

    def test_l24_sets_are_not_kept(self):
        for name, node, parent in WITH_PARENTS:
            made = is_call_of(node, ("set",))
            joined = isinstance(node, ast.BinOp) and any(is_call_of(side, ("set",)) for side in (node.left, node.right))
            if made or joined:
                asked = isinstance(parent, (ast.BinOp, ast.Compare)) or is_call_of(parent, ("sorted", "len"))
                self.assertTrue(asked, (name, node.lineno))
                self.assertEqual(getattr(parent, "keywords", []), [], (name, node.lineno))

    def test_l5_classes(self):
        for node in CLASSES:
            self.assertLessEqual(len(node.bases), 1, node.name)
            self.assertLessEqual({type(inner) for inner in node.body}, {ast.FunctionDef, ast.Pass}, node.name)
            names = [inner.name for inner in node.body if isinstance(inner, ast.FunctionDef)]
            self.assertEqual(len(set(names)), len(names), node.name)

    def test_l18_l26_methods_and_values(self):
        values = {node.attr for name, node in NODES_OF if isinstance(node, ast.Attribute) and
                  isinstance(node.ctx, ast.Store)}
        self.assertEqual(values & OWN_METHODS, set())
        taken = {name for kind in (str, int, list, dict, set, bytes) for name in dir(kind)}
        self.assertEqual((values | OWN_METHODS - set(DUNDERS)) & taken, set())
        for name, node in NODES_OF:
            if isinstance(node, ast.Attribute) and isinstance(node.ctx, ast.Store):
                self.assertEqual(node.value.id, "self", (name, node.lineno))

    def test_l25_methods(self):
        for name, node in NODES_OF:
            if isinstance(node, ast.Call) and isinstance(node.func, ast.Attribute):
                self.assertIn(node.func.attr, METHODS | OWN_METHODS, name)

    def test_l3_l15_the_top_of_a_file(self):
        kept = set()
        for name, tree in TREES.items():
            for node in tree.body[1:] if ast.get_docstring(tree) else tree.body:
                self.assertIsInstance(node, (ast.ImportFrom, ast.FunctionDef, ast.ClassDef, ast.Assign), name)
                if isinstance(node, ast.Assign):
                    self.assertTrue(is_plain_value(node.value), (name, node.lineno))
                    if isinstance(node.value, (ast.List, ast.Dict)):
                        kept.add(node.targets[0].id)
                        lists = [one for one in ast.walk(node.value) if isinstance(one, (ast.List, ast.Dict))]
                        self.assertEqual(lists, [node.value], (name, node.lineno))
        # What is kept in lists and dicts there is only read.
        self.assertNotEqual(kept, set())
        for name, node, parent in WITH_PARENTS:
            if isinstance(node, ast.Name) and node.id in kept and isinstance(node.ctx, ast.Load):
                where = (name, node.lineno, node.id)
                if isinstance(parent, ast.Subscript):
                    self.assertIsInstance(parent.ctx, ast.Load, where)
                elif isinstance(parent, ast.Attribute):
                    self.assertIn(parent.attr, ("get", "items", "keys", "values"), where)
                else:
                    self.assertIsInstance(parent, (ast.For, ast.comprehension, ast.Compare), where)

    def test_l22_names_of_python_s_own_are_called(self):
        keywords = {"sorted": ("key", "reverse"), "min": ("key", "default"), "max": ("key", "default"),
                    "sum": ("start",), "enumerate": ("start",), "zip": ("strict",)}
        kinds = ("int", "str", "bool", "list", "tuple", "dict")
        for name, node, parent in WITH_PARENTS:
            if isinstance(node, ast.Call):
                known = keywords.get(getattr(node.func, "id", None), ())
                self.assertLessEqual({one.arg for one in node.keywords}, set(known), (name, node.lineno))
            if isinstance(node, ast.Name) and node.id in OWN_NAMES:
                called = isinstance(parent, ast.Call) and parent.func is node
                asked = node.id in kinds and (isinstance(parent, ast.Tuple) or is_call_of(parent, ("isinstance",)))
                self.assertTrue(called or asked or isinstance(parent, ast.ClassDef), (name, node.lineno, node.id))

    def test_l27_numbers_and_texts(self):
        for name, node in NODES_OF:
            if isinstance(node, ast.Constant) and isinstance(node.value, str):
                self.assertNotIn("%", node.value, (name, node.lineno))
            if isinstance(node, ast.FormattedValue):
                self.assertIsInstance(node.value, ast.Name, (name, node.lineno))
            if isinstance(node, ast.BinOp) and isinstance(node.op, ast.Pow):
                self.assertIsInstance(node.right, ast.Constant, (name, node.lineno))
        for name, text in TEXTS.items():
            self.assertEqual(re.findall(r"\\[^nt\\'\"]", text), [], name)

    def test_l28_init_gives_back_nothing(self):
        for name, node in NODES_OF:
            if isinstance(node, ast.FunctionDef) and node.name in DUNDERS:
                self.assertEqual(node.name, "__init__", name)
                self.assertEqual([one for one in ast.walk(node) if isinstance(one, ast.Return)], [], name)


if __name__ == "__main__":
    unittest.main()
