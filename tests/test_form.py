"""Holds the package's files to the small part of Python that they keep to, as far as a look at them can."""

import ast
import builtins
import re
import unittest
from pathlib import Path

PACKAGE = Path(__file__).resolve().parent.parent / "cellways"

NODES = """Module FunctionDef arguments arg ClassDef Return Assign AugAssign For While If Raise Try ExceptHandler Expr
Pass Break Continue BoolOp And Or BinOp Add Sub Mult FloorDiv Mod Pow LShift RShift BitOr BitXor BitAnd UnaryOp Invert
Not USub UAdd Lambda IfExp Dict Set ListComp comprehension Compare Eq NotEq Lt LtE Gt GtE Is IsNot In NotIn Call keyword
FormattedValue JoinedStr Constant Attribute Subscript Slice Name List Tuple Load Store ImportFrom alias""".split()

BUILT_IN = """len range enumerate zip min max sum abs sorted reversed int str bool list tuple dict set frozenset
isinstance ord repr any all divmod Exception ValueError TypeError KeyError IndexError LookupError ZeroDivisionError
ArithmeticError OverflowError RuntimeError NotImplementedError AttributeError StopIteration""".split()

METHODS = """append clear copy count endswith extend find get index insert isalnum isalpha isdigit islower isspace
isupper items join keys ljust lower lstrip partition pop remove replace reverse rfind rjust rpartition rsplit rstrip
setdefault split splitlines startswith strip update upper values zfill bit_length""".split()

NO_WORDS = r"""\b(type|typing|typing_extensions|enum|Enum|IntEnum|StrEnum|Flag|IntFlag|Generic|Protocol|ABC|ABCMeta|
namedtuple|NamedTuple|TypedDict|TYPE_CHECKING|abstractmethod)\b|dataclass|overload|contextmanager""".replace("\n", "")

NO_NAMES = """register mro elements open input version_info with_traceback add_note attrgetter breakpoint builtins
compile copyright credits delattr dir eval exec exit gc getattr globals hasattr help id importlib license locals
methodcaller os quit setattr super type vars sys format format_map""".split()


KINDS = (str, int, list, dict, set, frozenset, bytes, tuple)


def files():
    return sorted(path for path in PACKAGE.rglob("*") if "__pycache__" not in path.parts)


def trees():
    return [(path.name, ast.parse(path.read_text(encoding="utf-8"))) for path in files()]


def nodes(kind):
    return [(name, node) for name, tree in trees() for node in ast.walk(tree) if isinstance(node, kind)]


def called(node):
    """The name by which a function or a method is called."""
    return node.func.attr if isinstance(node.func, ast.Attribute) else getattr(node.func, "id", None)


def place(node):
    return (node.lineno, node.col_offset, node.end_lineno, node.end_col_offset)


def first_arguments(names):
    """Where the first thing stands that is handed to one of these functions."""
    return [(name, place(node.args[0])) for name, node in nodes(ast.Call) if called(node) in names and node.args]


def bound_names():
    names = [(name, node.id) for name, node in nodes(ast.Name) if isinstance(node.ctx, ast.Store)]
    names += [(name, node.arg) for name, node in nodes(ast.arg)]
    names += [(name, node.name) for name, node in nodes((ast.FunctionDef, ast.ClassDef))]
    return [(name, bound) for name, bound in names if bound != "__init__"]


class Form(unittest.TestCase):
    def test_files(self):
        self.assertIn("__init__.py", [path.name for path in files()])
        for path in files():
            self.assertRegex(path.name, r"^(__init__|__main__|[a-z][a-z0-9_]*)\.py$")

    def test_signs_and_sizes(self):
        for path in files():
            text = path.read_text(encoding="utf-8")
            self.assertRegex(text, r"\A[ -~\n]*\Z", path.name)
            self.assertLessEqual(len(text.splitlines()), 400)
            self.assertLessEqual(max(len(line) for line in text.splitlines()), 120)
            self.assertIsNone(re.search(NO_WORDS, text), path.name)

    def test_nodes(self):
        for name, node in nodes(ast.AST):
            self.assertIn(type(node).__name__, NODES, (name, getattr(node, "lineno", None)))

    def test_defs(self):
        for name, node in nodes(ast.FunctionDef):
            self.assertLessEqual(node.end_lineno - node.lineno + 1, 40, (name, node.name))
            self.assertEqual(node.decorator_list, [])
            self.assertEqual((node.args.vararg, node.args.kwarg, node.args.kwonlyargs), (None, None, []))
        for name, node in nodes(ast.Assign):
            self.assertEqual(len(node.targets), 1, (name, node.lineno))
        for name, node in nodes(ast.ListComp):
            self.assertEqual(len(node.generators), 1, (name, node.lineno))
            self.assertLessEqual(len(node.generators[0].ifs), 1, (name, node.lineno))
        for name, node in nodes((ast.For, ast.While)):
            self.assertEqual(node.orelse, [], (name, node.lineno))

    def test_imports(self):
        for name, node in nodes(ast.ImportFrom):
            self.assertEqual(node.level, 0)
            self.assertTrue(node.module.startswith("cellways."), (name, node.module))
            self.assertTrue((PACKAGE.parent / (node.module.replace(".", "/") + ".py")).is_file())
            self.assertNotEqual(name, "__init__.py")

    def test_names(self):
        for name, bound in bound_names():
            self.assertFalse(bound.startswith("_"), (name, bound))
            self.assertFalse(hasattr(builtins, bound), (name, bound))
            self.assertNotIn(bound, NO_NAMES, name)
        for name, node in nodes(ast.Name):
            if hasattr(builtins, node.id):
                self.assertIn(node.id, BUILT_IN, (name, node.lineno))

    def test_methods(self):
        own = [node.name for _, node in nodes(ast.FunctionDef)]
        for name, node in nodes(ast.Call):
            if isinstance(node.func, ast.Attribute):
                self.assertIn(node.func.attr, METHODS + own, (name, node.lineno))

    def test_classes(self):
        for name, node in nodes(ast.ClassDef):
            self.assertLessEqual(len(node.bases), 1, (name, node.name))
            self.assertEqual((node.keywords, node.decorator_list), ([], []))
            for part in node.body:
                self.assertIn(type(part), (ast.FunctionDef, ast.Pass, ast.Expr), (name, part.lineno))
            methods = [part.name for part in node.body if isinstance(part, ast.FunctionDef)]
            self.assertEqual(len(methods), len(set(methods)), (name, node.name))

    def test_values_of_objects(self):
        methods = [part.name for _, node in nodes(ast.ClassDef) for part in node.body if hasattr(part, "name")]
        for name, node in nodes(ast.Attribute):
            if isinstance(node.ctx, ast.Store):
                self.assertNotIn(node.attr, methods, (name, node.lineno))
                self.assertFalse(any(hasattr(kind, node.attr) for kind in KINDS), (name, node.lineno))
                self.assertFalse(node.attr.startswith("_"), (name, node.lineno))

    def test_walked_at_once(self):
        walked = ["zip", "enumerate", "reversed", "range", "items", "keys", "values"]
        takers = ["list", "tuple", "dict", "sorted", "sum", "any", "all", "enumerate", "zip", "min", "max", "join"]
        walks = [(name, place(node.iter)) for name, node in nodes((ast.For, ast.comprehension))]
        for name, node in nodes(ast.Call):
            if called(node) in walked:
                self.assertIn((name, place(node)), walks + first_arguments(takers), (name, node.lineno))

    def test_sets_stand_within_sorted_or_len_alone(self):
        for name, node in nodes(ast.Call):
            if called(node) in ["set", "frozenset"]:
                self.assertIn((name, place(node)), first_arguments(["sorted", "len"]), (name, node.lineno))

    def test_locals_are_not_called_like_imports_or_classes(self):
        for name, tree in trees():
            taken = [alias.name for node in tree.body if isinstance(node, ast.ImportFrom) for alias in node.names]
            taken += [node.name for node in tree.body if isinstance(node, ast.ClassDef)]
            bound = [node.arg for node in ast.walk(tree) if isinstance(node, ast.arg)]
            names = [node for node in ast.walk(tree) if isinstance(node, ast.Name)]
            bound += [node.id for node in names if isinstance(node.ctx, ast.Store)]
            self.assertEqual([other for other in bound if other in taken], [], name)

    def test_no_two_files_draw_from_one_another(self):
        drawn = {name[:-3]: [node.module.split(".")[1] for node in tree.body if isinstance(node, ast.ImportFrom)]
                 for name, tree in trees()}
        placed = []
        while len(placed) < len(drawn):
            free = [name for name in drawn if name not in placed and all(other in placed for other in drawn[name])]
            self.assertNotEqual(free, [], drawn)
            placed += free

    def test_is_stands_beside_none_and_truths_alone(self):
        for name, node in nodes(ast.Compare):
            for operator, right in zip(node.ops, node.comparators):
                if isinstance(operator, (ast.Is, ast.IsNot)):
                    self.assertTrue(isinstance(right, ast.Constant) and right.value in (None, True, False), name)

    def test_numbers_and_texts(self):
        for name, node in nodes(ast.Constant):
            self.assertIn(type(node.value), (int, str, bool, type(None)), (name, node.lineno))
            if type(node.value) is str:
                self.assertNotIn("%", node.value, (name, node.lineno))
