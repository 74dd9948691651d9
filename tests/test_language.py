"""The package's form: those of the language's rules that can be seen by going through its files."""

import ast
import builtins
import pathlib
import re
import unittest

PACKAGE = pathlib.Path(__file__).resolve().parent.parent / "tangleweave"

OWN_NAMES = set(
    "len range enumerate zip min max sum abs sorted reversed int str bool list tuple dict set frozenset isinstance ord"
    " repr any all divmod Exception ValueError TypeError KeyError IndexError LookupError ZeroDivisionError"
    " ArithmeticError OverflowError RuntimeError NotImplementedError AttributeError StopIteration".split()
)
METHODS = set(
    "append clear copy count endswith extend find get index insert isalnum isalpha isdigit islower isspace isupper items"
    " join keys ljust lower lstrip partition pop remove replace reverse rfind rjust rpartition rsplit rstrip setdefault"
    " split splitlines startswith strip update upper values zfill bit_length".split()
)
NOWHERE = set("register mro elements open input version_info with_traceback add_note format format_map".split())
NOT_AS_NAMES = set(
    "attrgetter breakpoint builtins compile copyright credits delattr dir eval exec exit gc getattr globals hasattr help"
    " id importlib license locals methodcaller os quit setattr super type vars sys".split()
)
WORDS = re.compile(
    r"\b(type|typing|typing_extensions|enum|Enum|IntEnum|StrEnum|Flag|IntFlag|Generic|Protocol|ABC|ABCMeta|namedtuple"
    r"|NamedTuple|TypedDict|TYPE_CHECKING|abstractmethod)\b|dataclass|overload|contextmanager"
)
STATEMENTS = (
    ast.FunctionDef, ast.ClassDef, ast.Assign, ast.AugAssign, ast.If, ast.While, ast.For, ast.Return, ast.Break,
    ast.Continue, ast.Pass, ast.Raise, ast.Try, ast.Expr, ast.ImportFrom,
)
EXPRESSIONS = (
    ast.Constant, ast.List, ast.Tuple, ast.Dict, ast.BinOp, ast.UnaryOp, ast.BoolOp, ast.Compare, ast.IfExp, ast.Call,
    ast.Attribute, ast.Subscript, ast.Slice, ast.ListComp, ast.Lambda, ast.Name, ast.JoinedStr, ast.FormattedValue,
)
OF_ALL_VALUES = set(dir("")) | set(dir(0)) | set(dir([])) | set(dir({})) | set(dir(set())) | set(dir(b"")) | set(dir(()))


def stores(tree):
    """Every name that is bound somewhere within: by assignment, as a parameter, by a def, a class or an import."""
    for node in ast.walk(tree):
        if isinstance(node, ast.Name) and isinstance(node.ctx, ast.Store):
            yield node.id
        elif isinstance(node, ast.arg):
            yield node.arg
        elif isinstance(node, (ast.FunctionDef, ast.ClassDef)):
            yield node.name
        elif isinstance(node, ast.alias):
            yield node.asname or node.name


class Language(unittest.TestCase):
    @classmethod
    def setUpClass(cls):
        cls.texts = {path.stem: path.read_text() for path in sorted(PACKAGE.glob("*.py"))}
        cls.trees = {stem: ast.parse(text) for stem, text in cls.texts.items()}

    def nodes(self, *kinds):
        for stem, tree in self.trees.items():
            for node in ast.walk(tree):
                if isinstance(node, kinds):
                    yield f"{stem}:{getattr(node, 'lineno', 0)}", node

    def test_files(self):
        for path in PACKAGE.iterdir():
            if path.name != "__pycache__":
                self.assertRegex(path.name, r"^([a-z0-9_]+)\.py$")
                self.assertNotIn(path.stem, set(dir(builtins)) | {"test", "tests", "testing", "site", "conftest"})
        self.assertIn("__init__", self.texts)

    def test_signs_and_lengths(self):
        for stem, text in self.texts.items():
            self.assertRegex(text, r"\A[ -~\n]*\Z", stem)
            self.assertIsNone(WORDS.search(text), stem)
            self.assertLessEqual(len(text.splitlines()), 400, stem)
            self.assertLessEqual(max(map(len, text.splitlines())), 120, stem)
        for where, node in self.nodes(ast.FunctionDef):
            self.assertLessEqual(node.end_lineno - node.lineno + 1, 40, where)

    def test_statements(self):
        for where, node in self.nodes(ast.stmt):
            self.assertIsInstance(node, STATEMENTS, where)
        for where, node in self.nodes(ast.Assign):
            self.assertEqual(len(node.targets), 1, where)
            self.assertNotIsInstance(node.targets[0], (ast.Tuple, ast.List), where)
        for where, node in self.nodes(ast.While, ast.For):
            self.assertEqual(node.orelse, [], where)
        heads = [tree.body[0] for tree in self.trees.values()]
        for where, node in self.nodes(ast.Expr):
            self.assertTrue(node in heads or isinstance(node.value, ast.Call), where)

    def test_expressions(self):
        for where, node in self.nodes(ast.expr):
            self.assertIsInstance(node, EXPRESSIONS, where)
        for where, node in self.nodes(ast.Constant):
            self.assertIn(node.value.__class__, (int, str, bool, None.__class__), where)
            self.assertNotIn("%", node.value if isinstance(node.value, str) else "", where)
        for where, node in self.nodes(ast.ListComp):
            self.assertEqual(len(node.generators), 1, where)
            self.assertLessEqual(len(node.generators[0].ifs), 1, where)
        for where, node in self.nodes(ast.Div, ast.Pow, ast.MatMult, ast.Set, ast.Starred):
            self.fail(where)
        for where, node in self.nodes(ast.Compare):
            for operator, right in zip(node.ops, node.comparators):
                if isinstance(operator, (ast.Is, ast.IsNot)):
                    self.assertIsInstance(right, ast.Constant, where)

    def test_functions_and_classes(self):
        for where, node in self.nodes(ast.FunctionDef):
            told = node.args
            self.assertFalse(told.vararg or told.kwarg or told.kwonlyargs or told.posonlyargs or node.decorator_list, where)
        for where, node in self.nodes(ast.ClassDef):
            self.assertFalse(node.decorator_list or node.keywords or len(node.bases) > 1, where)
            for inner in node.body:
                self.assertIsInstance(inner, ast.FunctionDef, where)

    def test_names(self):
        for stem, tree in self.trees.items():
            for name in stores(tree):
                if name != "__init__":
                    self.assertRegex(name, r"^[A-Za-z][A-Za-z0-9_]*$", stem)
                self.assertNotIn(name, dir(builtins), stem)
                self.assertNotIn(name, NOWHERE | NOT_AS_NAMES, stem)
        for where, node in self.nodes(ast.Name):
            self.assertTrue(node.id in OWN_NAMES or node.id not in dir(builtins), where)

    def test_attributes(self):
        methods = {inner.name for where, node in self.nodes(ast.ClassDef) for inner in node.body}
        values = {node.attr for where, node in self.nodes(ast.Attribute) if isinstance(node.ctx, ast.Store)}
        self.assertEqual(methods & values, set())
        self.assertEqual((methods | values) & OF_ALL_VALUES - {"__init__"}, set())
        for where, node in self.nodes(ast.Attribute):
            self.assertNotIn(node.attr, NOWHERE, where)
            self.assertIn(node.attr, METHODS | methods | values, where)

    def test_the_top_of_a_file(self):
        for stem, tree in self.trees.items():
            names = [name for node in tree.body for name in stores_at_top(node)]
            self.assertEqual(len(names), len(set(names)), stem)
            imports_and_classes = {name for node in tree.body if isinstance(node, (ast.ImportFrom, ast.ClassDef))
                                   for name in stores_at_top(node)}
            for node in tree.body:
                if isinstance(node, ast.Assign):
                    self.assertIsInstance(ast.literal_eval(node.value), (int, str, tuple), stem)
                for inner in ast.walk(node):
                    if isinstance(inner, (ast.Name, ast.arg)) and isinstance(getattr(inner, "ctx", ast.Store()), ast.Store):
                        self.assertNotIn(getattr(inner, "id", None) or inner.arg, imports_and_classes, stem)

    def test_imports(self):
        drawn = {}
        for stem, tree in self.trees.items():
            drawn[stem] = set()
            for node in ast.walk(tree):
                if isinstance(node, ast.ImportFrom):
                    self.assertIn(node, tree.body, stem)
                    self.assertEqual((node.level, node.module.split(".")[0]), (0, "tangleweave"), stem)
                    source = node.module.split(".")[1]
                    drawn[stem].add(source)
                    defined = {name for top in self.trees[source].body if not isinstance(top, ast.ImportFrom)
                               for name in stores_at_top(top)}
                    for alias in node.names:
                        self.assertIn(alias.name, defined, stem)
                        self.assertIsNone(alias.asname, stem)
        self.assertEqual(drawn["__init__"], set())
        while drawn:
            free = [stem for stem in drawn if not drawn[stem] & set(drawn)]
            self.assertTrue(free, "files draw from one another")
            for stem in free:
                del drawn[stem]


def stores_at_top(node):
    if isinstance(node, (ast.FunctionDef, ast.ClassDef)):
        return [node.name]
    return list(stores(node))


if __name__ == "__main__":
    unittest.main()
