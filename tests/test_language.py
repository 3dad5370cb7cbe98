"""What can be seen of the rules for the package's own files."""

import ast
import builtins
import pathlib
import re
import unittest

TOP = pathlib.Path(__file__).resolve().parent.parent
PACKAGE = TOP / "lookback"
FILES = sorted(path for path in PACKAGE.rglob("*") if path.is_file() and "__pycache__" not in path.parts)

NODES = {
    "Module", "Expr", "Constant", "ImportFrom", "alias", "FunctionDef", "ClassDef", "arguments", "arg", "Lambda",
    "Assign", "AugAssign", "If", "While", "For", "Return", "Break", "Continue", "Pass", "Raise", "Try",
    "ExceptHandler", "Assert", "Delete", "Call", "keyword", "Attribute", "Subscript", "Slice", "Starred", "Name",
    "Load", "Store", "Del", "List", "Tuple", "Dict", "Set", "ListComp", "DictComp", "SetComp", "comprehension",
    "BoolOp", "And", "Or", "UnaryOp", "Not", "USub", "UAdd", "Invert", "BinOp", "Add", "Sub", "Mult", "FloorDiv",
    "Mod", "Pow", "LShift", "RShift", "BitAnd", "BitOr", "BitXor", "Compare", "Eq", "NotEq", "Lt", "LtE", "Gt",
    "GtE", "Is", "IsNot", "In", "NotIn", "IfExp", "JoinedStr", "FormattedValue",
}
OWN = {
    "len", "range", "enumerate", "zip", "min", "max", "sum", "abs", "sorted", "reversed", "int", "str", "bool",
    "bytes", "list", "tuple", "dict", "set", "frozenset", "isinstance", "ord", "repr", "any", "all", "divmod", "Exception",
    "ValueError", "TypeError", "KeyError", "IndexError", "LookupError", "ZeroDivisionError", "ArithmeticError",
    "OverflowError", "RuntimeError", "NotImplementedError", "AttributeError", "StopIteration",
}
NO_SUCH_WORDS = re.compile(
    r"\b(type|typing|typing_extensions|enum|Enum|IntEnum|StrEnum|Flag|IntFlag|Generic|Protocol|ABC|ABCMeta|namedtuple"
    r"|NamedTuple|TypedDict|TYPE_CHECKING|abstractmethod)\b|dataclass|overload|contextmanager")
NO_SUCH_NAMES = {"register", "mro", "elements", "open", "input", "version_info", "with_traceback", "add_note"}


METHODS = {
    "append", "clear", "copy", "count", "endswith", "extend", "find", "get", "index", "insert", "isalnum", "isalpha",
    "isdigit", "islower", "isspace", "isupper", "items", "join", "keys", "ljust", "lower", "lstrip", "partition", "pop",
    "remove", "replace", "reverse", "rfind", "rjust", "rpartition", "rsplit", "rstrip", "setdefault", "split",
    "splitlines", "startswith", "strip", "update", "upper", "values", "zfill", "bit_length", "sort", "add", "discard",
}
SPOTS = {"zip", "enumerate", "reversed", "range", "items", "keys", "values"}
WALKERS = {"list", "tuple", "dict", "sorted", "sum", "any", "all", "enumerate", "zip", "bytes", "min", "max", "join"}


def defined_at_top(tree):
    """The defs, classes and plain values of a file's top."""
    names = [node.name for node in tree.body if isinstance(node, (ast.FunctionDef, ast.ClassDef))]
    return names + [node.targets[0].id for node in tree.body if isinstance(node, ast.Assign)]


def given_names(tree):
    """All names that a file binds: defs, classes, parameters, locals; methods may be called more freely."""
    methods = [part for node in tree.body if isinstance(node, ast.ClassDef) for part in node.body]
    for node in ast.walk(tree):
        if isinstance(node, (ast.FunctionDef, ast.ClassDef)) and node not in methods:
            yield node.name
        elif isinstance(node, ast.arg):
            yield node.arg
        elif isinstance(node, ast.Name) and not isinstance(node.ctx, ast.Load):
            yield node.id


def called_name(node):
    """What is called, where it is a plain name or a method; else None."""
    if not isinstance(node, ast.Call):
        return None
    return node.func.attr if isinstance(node.func, ast.Attribute) else getattr(node.func, "id", None)


def is_set(node):
    return isinstance(node, (ast.Set, ast.SetComp)) or called_name(node) == "set"


def draws(trees):
    """The dict from each file's name to the names of those that it draws from."""
    return {path.stem: [node.module.split(".")[1] for node in tree.body if isinstance(node, ast.ImportFrom)]
            for path, tree in trees.items()}


class Language(unittest.TestCase):
    def setUp(self):
        self.texts = {path: path.read_text(encoding="utf-8") for path in FILES}
        self.trees = {path: ast.parse(text) for path, text in self.texts.items()}

    def test_files(self):
        self.assertIn(PACKAGE / "__init__.py", FILES)
        for path in FILES:
            self.assertRegex(path.name, r"^[a-z0-9_]+\.py$")

    def test_size_and_signs(self):
        for path, text in self.texts.items():
            self.assertRegex(text, r"\A[ -~\n]*\Z", path)
            self.assertLessEqual(len(text.splitlines()), 400, path)
            for line in text.splitlines():
                self.assertLessEqual(len(line), 120, (path, line))
            for node in ast.walk(self.trees[path]):
                if isinstance(node, ast.FunctionDef):
                    self.assertLessEqual(node.end_lineno - node.lineno + 1, 40, (path, node.name))

    def test_words(self):
        for path, text in self.texts.items():
            self.assertIsNone(NO_SUCH_WORDS.search(text), path)

    def test_forms(self):
        for path, tree in self.trees.items():
            for node in ast.walk(tree):
                self.assertIn(node.__class__.__name__, NODES, (path, getattr(node, "lineno", None)))
                if isinstance(node, ast.Constant):
                    self.assertIsInstance(node.value, (int, str, bytes, bool, type(None)), path)
                    self.assertFalse(isinstance(node.value, str) and "%" in node.value, (path, node.lineno))
                if isinstance(node, (ast.For, ast.While)):
                    self.assertEqual(node.orelse, [], (path, node.lineno))
                if isinstance(node, ast.FunctionDef):
                    self.assertEqual(node.decorator_list, [], (path, node.name))
                    self.assertTrue(node.args.vararg is node.args.kwarg is None, (path, node.name))
                if isinstance(node, ast.Compare) and isinstance(node.ops[0], (ast.Is, ast.IsNot)):
                    self.assertIsInstance(node.comparators[0], ast.Constant, (path, node.lineno))

    def test_imports(self):
        for path, tree in self.trees.items():
            for node in tree.body:
                if isinstance(node, ast.ImportFrom):
                    self.assertEqual(node.level, 0, path)
                    self.assertRegex(node.module, r"^lookback\.[a-z]+$", path)
                    source = self.trees[PACKAGE / (node.module.split(".")[1] + ".py")]
                    for name in node.names:
                        self.assertIn(name.name, defined_at_top(source), path)

    def test_top(self):
        for path, tree in self.trees.items():
            bound = defined_at_top(tree)
            bound += [name.name for node in tree.body if isinstance(node, ast.ImportFrom) for name in node.names]
            self.assertEqual(len(set(bound)), len(bound), path)
            self.assertTrue(ast.get_docstring(tree), path)

    def test_no_two_files_draw_from_one_another(self):
        left = draws(self.trees)
        while left:
            free = [name for name, others in left.items() if not any(other in left for other in others)]
            self.assertTrue(free, left)
            left = {name: others for name, others in left.items() if name not in free}

    def test_methods_and_values(self):
        methods, values = set(), set()
        for tree in self.trees.values():
            for node in ast.walk(tree):
                if isinstance(node, ast.ClassDef):
                    methods |= {part.name for part in node.body if isinstance(part, ast.FunctionDef)}
                elif isinstance(node, ast.Attribute) and isinstance(node.ctx, ast.Store):
                    self.assertIsInstance(node.value, ast.Name, node.lineno)
                    values.add(node.attr)
        self.assertEqual(methods & values, set())
        of_python = {name for thing in ("", 0, [], {}, set(), b"") for name in dir(thing)}
        self.assertEqual((values - {"count", "index", "title", "find", "get", "join", "copy"}) & of_python, set())
        for path, tree in self.trees.items():
            called = [node.func for node in ast.walk(tree) if isinstance(node, ast.Call)]
            for node in ast.walk(tree):
                if isinstance(node, ast.Attribute):
                    known = METHODS | methods if node in called else values
                    self.assertIn(node.attr, known, (path, node.lineno))

    def test_walked_at_once_and_sets(self):
        for path, tree in self.trees.items():
            parents = {child: node for node in ast.walk(tree) for child in ast.iter_child_nodes(node)}
            for node in ast.walk(tree):
                parent = parents.get(node)
                if called_name(node) in SPOTS:
                    walked = isinstance(parent, (ast.For, ast.comprehension)) and parent.iter is node
                    walked = walked or called_name(parent) in WALKERS
                    self.assertTrue(walked, (path, node.lineno))
                if is_set(node):
                    while isinstance(parent, ast.BinOp):
                        parent = parents[parent]
                    plain = called_name(parent) in ("sorted", "len") and not parent.keywords
                    self.assertTrue(plain or isinstance(parent, ast.Compare), (path, node.lineno))

    def test_names(self):
        for path, tree in self.trees.items():
            drawn = {name.name for node in tree.body if isinstance(node, ast.ImportFrom) for name in node.names}
            for name in given_names(tree):
                self.assertFalse(name.startswith("_") and not name.startswith("__"), (path, name))
                self.assertNotIn(name, drawn, path)
                self.assertNotIn(name, dir(builtins), path)
                self.assertNotIn(name, NO_SUCH_NAMES, path)
            for node in ast.walk(tree):
                if isinstance(node, ast.Name) and node.id in dir(builtins):
                    self.assertIn(node.id, OWN, (path, node.lineno))


if __name__ == "__main__":
    unittest.main()
