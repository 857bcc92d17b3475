"""What a program can see of the rules L1 to L28, asked of the package's files."""

import ast
import builtins
import pathlib
import re
import unittest

PACKAGE = pathlib.Path(__file__).resolve().parent.parent / "pageturns"
FILES = sorted(path for path in PACKAGE.iterdir() if path.suffix == ".py")

NODES = set("""
    Module FunctionDef ClassDef Lambda arguments arg Return Assign AugAssign For While If Raise Try
    ExceptHandler ImportFrom alias Expr Pass Break Continue BoolOp And Or BinOp Add Sub Mult FloorDiv
    Mod Pow LShift RShift BitOr BitXor BitAnd UnaryOp Invert Not UAdd USub IfExp Dict Set ListComp
    comprehension Compare Eq NotEq Lt LtE Gt GtE Is IsNot In NotIn Call keyword JoinedStr
    FormattedValue Constant Attribute Subscript Slice Name Load Store List Tuple
""".split())
OWN_NAMES_OF_PYTHON = set("""
    len range enumerate zip min max sum abs sorted reversed int str bool list tuple dict set frozenset
    isinstance ord repr any all divmod Exception ValueError TypeError KeyError IndexError LookupError
    ZeroDivisionError ArithmeticError OverflowError RuntimeError NotImplementedError AttributeError
    StopIteration
""".split())
METHODS = set("""
    append clear copy count endswith extend find get index insert isalnum isalpha isdigit islower isspace
    isupper items join keys ljust lower lstrip partition pop remove replace reverse rfind rjust rpartition
    rsplit rstrip setdefault split splitlines startswith strip update upper values zfill bit_length
""".split())
DUNDERS = {"__init__", "__eq__", "__repr__", "__str__", "__len__"}
FORBIDDEN_WORDS = re.compile(
    r"\b(type|typing|typing_extensions|enum|Enum|IntEnum|StrEnum|Flag|IntFlag|Generic|Protocol|ABC|ABCMeta"
    r"|namedtuple|NamedTuple|TypedDict|TYPE_CHECKING|abstractmethod)\b|dataclass|overload|contextmanager"
)
PLAIN_NAME = re.compile(r"[A-Za-z][A-Za-z0-9_]*")
KEYWORDS = {"sorted": {"key", "reverse"}, "min": {"key", "default"}, "max": {"key", "default"},
            "sum": {"start"}, "enumerate": {"start"}, "zip": {"strict"}}
WALKED_AT_ONCE = {"zip", "enumerate", "reversed", "range", "items", "keys", "values"}
WALKERS = {"list", "tuple", "dict", "sorted", "sum", "any", "all", "enumerate", "zip", "min", "max", "join"}
NO_VALUE_NAMES = set("""
    items keys values pop update append clear extend insert remove reverse setdefault sort args encode format
""".split())


def tree_of(path):
    return ast.parse(path.read_text("utf-8"))


def nodes_of(path, *sorts):
    return [node for node in ast.walk(tree_of(path)) if isinstance(node, sorts)]


def names_bound_at_top(path):
    names = []
    for node in tree_of(path).body:
        if isinstance(node, (ast.FunctionDef, ast.ClassDef)):
            names.append(node.name)
        elif isinstance(node, ast.Assign):
            names.extend(target.id for target in node.targets)
    return names


def names_bound(path):
    names = [node.id for node in nodes_of(path, ast.Name) if isinstance(node.ctx, ast.Store)]
    names += [node.arg for node in nodes_of(path, ast.arg)]
    names += [node.name for node in nodes_of(path, ast.FunctionDef, ast.ClassDef)]
    names += [node.asname or node.name for node in nodes_of(path, ast.alias)]
    return names + [node.name for node in nodes_of(path, ast.ExceptHandler) if node.name]


def methods_of(path):
    classes = nodes_of(path, ast.ClassDef)
    return [part.name for node in classes for part in node.body if isinstance(part, ast.FunctionDef)]


def values_of(path):
    return [node.attr for node in nodes_of(path, ast.Attribute) if isinstance(node.ctx, ast.Store)]


def parents_of(path):
    """Each node of a file, with its parent."""
    pairs = []
    for parent in ast.walk(tree_of(path)):
        pairs.extend((node, parent) for node in ast.iter_child_nodes(parent))
    return pairs


def name_called(node):
    """The name of what a node calls, or None."""
    if not isinstance(node, ast.Call):
        return None
    return node.func.attr if isinstance(node.func, ast.Attribute) else getattr(node.func, "id", None)


def files_drawn_from(path):
    return [PACKAGE / (node.module.partition(".")[2] + ".py") for node in nodes_of(path, ast.ImportFrom)]


def lists_and_dicts_at_top(path):
    return {
        target.id for node in tree_of(path).body if isinstance(node, ast.Assign)
        for target in node.targets if isinstance(node.value, (ast.List, ast.Dict))
    }


def own_attributes():
    names = set()
    for path in FILES:
        names.update(methods_of(path))
        names.update(values_of(path))
    return names


class LanguageTest(unittest.TestCase):
    def test_only_python_files_lie_in_the_package(self):
        self.assertIn(PACKAGE / "__init__.py", FILES)
        for path in PACKAGE.iterdir():
            if path.name != "__pycache__":
                self.assertRegex(path.name, r"\A([a-z][a-z0-9_]*|__init__|__main__)\.py\Z")

    def test_signs_and_sizes(self):
        for path in FILES:
            with self.subTest(path.name):
                text = path.read_bytes().decode("ascii")
                self.assertNotRegex(text, r"[^ -~\n]")
                self.assertLessEqual(text.count("\n"), 400)
                self.assertLessEqual(max(len(line) for line in text.split("\n")), 120)
                for node in nodes_of(path, ast.FunctionDef):
                    self.assertLessEqual(node.end_lineno - node.lineno + 1, 40, node.name)

    def test_words_that_stand_nowhere(self):
        for path in FILES:
            with self.subTest(path.name):
                self.assertNotRegex(path.read_text("utf-8"), FORBIDDEN_WORDS)

    def test_statements_and_expressions(self):
        for path in FILES:
            with self.subTest(path.name):
                for node in nodes_of(path, ast.AST):
                    self.assertIn(node.__class__.__name__, NODES)
                for node in nodes_of(path, ast.Constant):
                    self.assertIn(node.value.__class__, (int, str, bool, None.__class__))
                    self.assertNotIn("%", str(node.value))
                for node in nodes_of(path, ast.For, ast.While):
                    self.assertEqual(node.orelse, [])
                for node in nodes_of(path, ast.Assign):
                    self.assertEqual(len(node.targets), 1)
                for node in nodes_of(path, ast.FormattedValue):
                    self.assertIsInstance(node.value, ast.Name)
                    self.assertIsNone(node.format_spec)
                for node in nodes_of(path, ast.ListComp):
                    self.assertEqual(len(node.generators), 1)
                    self.assertLessEqual(len(node.generators[0].ifs), 1)

    def test_functions_and_classes_are_plain(self):
        for path in FILES:
            with self.subTest(path.name):
                for node in nodes_of(path, ast.FunctionDef, ast.ClassDef):
                    self.assertEqual(node.decorator_list, [])
                for node in nodes_of(path, ast.arguments):
                    self.assertEqual((node.vararg, node.kwarg, node.kwonlyargs, node.posonlyargs), (None, None, [], []))
                for node in nodes_of(path, ast.ClassDef):
                    self.assertLessEqual(len(node.bases), 1)
                    for part in node.body:
                        self.assertIsInstance(part, (ast.FunctionDef, ast.Pass))

    def test_imports_are_from_the_file_that_defines_the_name(self):
        for path in FILES:
            with self.subTest(path.name):
                for node in nodes_of(path, ast.ImportFrom):
                    self.assertEqual(node.col_offset, 0)
                    self.assertEqual(node.level, 0)
                    self.assertTrue(node.module.startswith("pageturns."))
                    source = PACKAGE / (node.module.partition(".")[2] + ".py")
                    for alias in node.names:
                        self.assertIsNone(alias.asname)
                        self.assertIn(alias.name, names_bound_at_top(source))

    def test_names_are_plain_and_bound_once_at_the_top(self):
        for path in FILES:
            with self.subTest(path.name):
                top = names_bound_at_top(path)
                self.assertEqual(len(top), len(set(top)))
                for name in names_bound(path):
                    self.assertTrue(PLAIN_NAME.fullmatch(name) or name in DUNDERS, name)
                    if name not in methods_of(path):
                        self.assertFalse(hasattr(builtins, name), name)

    def test_names_that_are_read_are_own_or_listed(self):
        for path in FILES:
            with self.subTest(path.name):
                allowed = OWN_NAMES_OF_PYTHON | set(names_bound(path))
                for node in nodes_of(path, ast.Name):
                    self.assertIn(node.id, allowed)

    def test_attributes_are_own_or_listed(self):
        for path in FILES:
            with self.subTest(path.name):
                for node in nodes_of(path, ast.Attribute):
                    self.assertIn(node.attr, METHODS | own_attributes())

    def test_is_stands_beside_none_true_and_false_alone(self):
        for path in FILES:
            with self.subTest(path.name):
                for node in nodes_of(path, ast.Compare):
                    if any(isinstance(sort, (ast.Is, ast.IsNot)) for sort in node.ops):
                        sides = [node.left] + node.comparators
                        plain = [side for side in sides if isinstance(side, ast.Constant)]
                        self.assertIn(str(plain[0].value if plain else ""), ("None", "True", "False"))

    def test_no_two_files_draw_from_one_another(self):
        reached = {path: set(files_drawn_from(path)) for path in FILES}
        for _ in FILES:
            for path in FILES:
                reached[path].update(*(reached[source] for source in list(reached[path])))
        for path in FILES:
            self.assertNotIn(path, reached[path])

    def test_locals_are_not_called_like_classes_and_imports(self):
        for path in FILES:
            with self.subTest(path.name):
                taken = {node.name for node in nodes_of(path, ast.ClassDef, ast.alias)}
                names = {node.id for node in nodes_of(path, ast.Name) if isinstance(node.ctx, ast.Store)}
                names |= {node.arg for node in nodes_of(path, ast.arg)}
                self.assertEqual(names & taken, set())

    def test_lists_and_dicts_of_the_top_are_only_read(self):
        for path in FILES:
            kept = lists_and_dicts_at_top(path)
            for node, parent in parents_of(path):
                if isinstance(node, ast.Name) and node.id in kept and isinstance(node.ctx, ast.Load):
                    with self.subTest(path.name, name=node.id):
                        self.assertIsInstance(parent, (ast.Subscript, ast.Compare, ast.Attribute))
                        if isinstance(parent, ast.Subscript):
                            self.assertIsInstance(parent.ctx, ast.Load)
                        if isinstance(parent, ast.Attribute):
                            self.assertEqual(parent.attr, "get")

    def test_methods_and_values_are_called_apart(self):
        methods = {name for path in FILES for name in methods_of(path)}
        values = {name for path in FILES for name in values_of(path)}
        self.assertEqual(methods & values, set())
        self.assertEqual(values & NO_VALUE_NAMES, set())
        for path in FILES:
            for node in nodes_of(path, ast.ClassDef):
                names = [part.name for part in node.body if isinstance(part, ast.FunctionDef)]
                self.assertEqual(len(names), len(set(names)))

    def test_errors_are_named_and_made_on_the_spot(self):
        for path in FILES:
            with self.subTest(path.name):
                for node in nodes_of(path, ast.Raise):
                    self.assertIsInstance(node.exc, ast.Call)
                for node in nodes_of(path, ast.ExceptHandler):
                    self.assertIsNotNone(node.type)
                    for name in ast.walk(node.type):
                        self.assertNotIn(getattr(name, "id", None), ("Exception", "TypeError"))

    def test_keywords_are_listed_ones(self):
        for path in FILES:
            with self.subTest(path.name):
                for node in nodes_of(path, ast.Call):
                    for keyword in node.keywords:
                        self.assertIn(keyword.arg, KEYWORDS.get(name_called(node), ()))
                        if keyword.arg in ("reverse", "strict"):
                            self.assertIsInstance(keyword.value, ast.Constant)

    def test_what_is_walked_is_walked_at_once(self):
        for path in FILES:
            for node, parent in parents_of(path):
                if name_called(node) in WALKED_AT_ONCE:
                    with self.subTest(path.name, line=node.lineno):
                        if isinstance(parent, (ast.For, ast.comprehension)):
                            self.assertIs(parent.iter, node)
                        else:
                            self.assertIn(name_called(parent), WALKERS)

    def test_sets_are_not_kept(self):
        for path in FILES:
            for node, parent in parents_of(path):
                if name_called(node) in ("set", "frozenset") or isinstance(node, ast.Set):
                    with self.subTest(path.name, line=node.lineno):
                        if not isinstance(parent, (ast.Compare, ast.BinOp)):
                            self.assertIn(name_called(parent), ("sorted", "len"))

    def test_no_init_gives_anything_back(self):
        for path in FILES:
            for node in nodes_of(path, ast.FunctionDef):
                if node.name == "__init__":
                    returns = [part for part in ast.walk(node) if isinstance(part, ast.Return)]
                    self.assertEqual([part.value for part in returns if part.value is not None], [])


if __name__ == "__main__":
    unittest.main()
