"""What a program can see of the rules L1 to L28, asked of the package's files."""

import ast
import builtins
import pathlib
import re
import unittest

PACKAGE = pathlib.Path(__file__).resolve().parent.parent / "pageturns"
FILES = sorted(path for path in PACKAGE.iterdir() if path.suffix == ".py")

NODES = set("""
    Module FunctionDef ClassDef Lambda arguments arg Return Assign AugAssign For While If Raise Try
    ExceptHandler ImportFrom alias Expr Pass Break Continue BoolOp And Or BinOp Add Sub Mult FloorDiv
    Mod Pow LShift RShift BitOr BitXor BitAnd UnaryOp Invert Not UAdd USub IfExp Dict Set ListComp
    comprehension Compare Eq NotEq Lt LtE Gt GtE Is IsNot In NotIn Call keyword JoinedStr
    FormattedValue Constant Attribute Subscript Slice Name Load Store List Tuple
""".split())
OWN_NAMES_OF_PYTHON = set("""
    len range enumerate zip min max sum abs sorted reversed int str bool list tuple dict set frozenset
    isinstance ord repr any all divmod Exception ValueError TypeError KeyError IndexError LookupError
    ZeroDivisionError ArithmeticError OverflowError RuntimeError NotImplementedError AttributeError
    StopIteration
""".split())
METHODS = set("""
    append clear copy count endswith extend find get index insert isalnum isalpha isdigit islower isspace
    isupper items join keys ljust lower lstrip partition pop remove replace reverse rfind rjust rpartition
    rsplit rstrip setdefault split splitlines startswith strip update upper values zfill bit_length
""".split())
DUNDERS = {"__init__", "__eq__", "__repr__", "__str__", "__len__"}
FORBIDDEN_WORDS = re.compile(
    r"\b(type|typing|typing_extensions|enum|Enum|IntEnum|StrEnum|Flag|IntFlag|Generic|Protocol|ABC|ABCMeta"
    r"|namedtuple|NamedTuple|TypedDict|TYPE_CHECKING|abstractmethod)\b|dataclass|overload|contextmanager"
)
PLAIN_NAME = re.compile(r"[A-Za-z][A-Za-z0-9_]*")


def tree_of(path):
    return ast.parse(path.read_text("utf-8"))


def nodes_of(path, *sorts):
    return [node for node in ast.walk(tree_of(path)) if isinstance(node, sorts)]


def names_bound_at_top(path):
    names = []
    for node in tree_of(path).body:
        if isinstance(node, (ast.FunctionDef, ast.ClassDef)):
            names.append(node.name)
        elif isinstance(node, ast.Assign):
            names.extend(target.id for target in node.targets)
    return names


def names_bound(path):
    names = [node.id for node in nodes_of(path, ast.Name) if isinstance(node.ctx, ast.Store)]
    names += [node.arg for node in nodes_of(path, ast.arg)]
    names += [node.name for node in nodes_of(path, ast.FunctionDef, ast.ClassDef)]
    names += [node.asname or node.name for node in nodes_of(path, ast.alias)]
    return names + [node.name for node in nodes_of(path, ast.ExceptHandler) if node.name]


def methods_of(path):
    classes = nodes_of(path, ast.ClassDef)
    return [part.name for node in classes for part in node.body if isinstance(part, ast.FunctionDef)]


def own_attributes():
    names = set()
    for path in FILES:
        names.update(methods_of(path))
        names.update(node.attr for node in nodes_of(path, ast.Attribute) if isinstance(node.ctx, ast.Store))
    return names


class LanguageTest(unittest.TestCase):
    def test_only_python_files_lie_in_the_package(self):
        self.assertIn(PACKAGE / "__init__.py", FILES)
        for path in PACKAGE.iterdir():
            if path.name != "__pycache__":
                self.assertRegex(path.name, r"\A([a-z][a-z0-9_]*|__init__|__main__)\.py\Z")

    def test_signs_and_sizes(self):
        for path in FILES:
            with self.subTest(path.name):
                text = path.read_bytes().decode("ascii")
                self.assertNotRegex(text, r"[^ -~\n]")
                self.assertLessEqual(text.count("\n"), 400)
                self.assertLessEqual(max(len(line) for line in text.split("\n")), 120)
                for node in nodes_of(path, ast.FunctionDef):
                    self.assertLessEqual(node.end_lineno - node.lineno + 1, 40, node.name)

    def test_words_that_stand_nowhere(self):
        for path in FILES:
            with self.subTest(path.name):
                self.assertNotRegex(path.read_text("utf-8"), FORBIDDEN_WORDS)

    def test_statements_and_expressions(self):
        for path in FILES:
            with self.subTest(path.name):
                for node in nodes_of(path, ast.AST):
                    self.assertIn(node.__class__.__name__, NODES)
                for node in nodes_of(path, ast.Constant):
                    self.assertIn(node.value.__class__, (int, str, bool, None.__class__))
                    self.assertNotIn("%", str(node.value))
                for node in nodes_of(path, ast.For, ast.While):
                    self.assertEqual(node.orelse, [])
                for node in nodes_of(path, ast.Assign):
                    self.assertEqual(len(node.targets), 1)
                for node in nodes_of(path, ast.ListComp):
                    self.assertEqual(len(node.generators), 1)
                    self.assertLessEqual(len(node.generators[0].ifs), 1)

    def test_functions_and_classes_are_plain(self):
        for path in FILES:
            with self.subTest(path.name):
                for node in nodes_of(path, ast.FunctionDef, ast.ClassDef):
                    self.assertEqual(node.decorator_list, [])
                for node in nodes_of(path, ast.arguments):
                    self.assertEqual((node.vararg, node.kwarg, node.kwonlyargs, node.posonlyargs), (None, None, [], []))
                for node in nodes_of(path, ast.ClassDef):
                    self.assertLessEqual(len(node.bases), 1)
                    for part in node.body:
                        self.assertIsInstance(part, (ast.FunctionDef, ast.Pass))

    def test_imports_are_from_the_file_that_defines_the_name(self):
        for path in FILES:
            with self.subTest(path.name):
                for node in nodes_of(path, ast.ImportFrom):
                    self.assertEqual(node.col_offset, 0)
                    self.assertEqual(node.level, 0)
                    self.assertTrue(node.module.startswith("pageturns."))
                    source = PACKAGE / (node.module.partition(".")[2] + ".py")
                    for alias in node.names:
                        self.assertIsNone(alias.asname)
                        self.assertIn(alias.name, names_bound_at_top(source))

    def test_names_are_plain_and_bound_once_at_the_top(self):
        for path in FILES:
            with self.subTest(path.name):
                top = names_bound_at_top(path)
                self.assertEqual(len(top), len(set(top)))
                for name in names_bound(path):
                    self.assertTrue(PLAIN_NAME.fullmatch(name) or name in DUNDERS, name)
                    if name not in methods_of(path):
                        self.assertFalse(hasattr(builtins, name), name)

    def test_names_that_are_read_are_own_or_listed(self):
        for path in FILES:
            with self.subTest(path.name):
                allowed = OWN_NAMES_OF_PYTHON | set(names_bound(path))
                for node in nodes_of(path, ast.Name):
                    self.assertIn(node.id, allowed)

    def test_attributes_are_own_or_listed(self):
        for path in FILES:
            with self.subTest(path.name):
                for node in nodes_of(path, ast.Attribute):
                    self.assertIn(node.attr, METHODS | own_attributes())

    def test_is_stands_beside_none_true_and_false_alone(self):
        for path in FILES:
            with self.subTest(path.name):
                for node in nodes_of(path, ast.Compare):
                    if any(isinstance(sort, (ast.Is, ast.IsNot)) for sort in node.ops):
                        sides = [node.left] + node.comparators
                        plain = [side for side in sides if isinstance(side, ast.Constant)]
                        self.assertIn(str(plain[0].value if plain else ""), ("None", "True", "False"))


if __name__ == "__main__":
    unittest.main()
