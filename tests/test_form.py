"""Looks at the form of the package's files: a part of LANGUAGE.md alone.

Looked at are signs, sizes, words, kinds of statements, names, imports, classes, and where Python's own names may
stand. Not looked at, so still to be read by eye, are L13, L15 but for its names, L19, L24, L28, the rest of L18, L22,
L23 and L27.
"""

import ast
import builtins
import re
import unittest
from pathlib import Path

TOP = Path(__file__).resolve().parent.parent
PACKAGE = TOP / "rootspan"

OWN_NAMES = set("""len range enumerate zip min max sum abs sorted reversed int str bool list tuple dict set frozenset
isinstance ord repr any all divmod Exception ValueError TypeError KeyError IndexError LookupError ZeroDivisionError
ArithmeticError OverflowError RuntimeError NotImplementedError AttributeError StopIteration""".split())
OWN_METHODS = set("""append clear copy count endswith extend find get index insert isalnum isalpha isdigit islower
isspace isupper items join keys ljust lower lstrip partition pop remove replace reverse rfind rjust rpartition rsplit
rstrip setdefault split splitlines startswith strip update upper values zfill bit_length""".split())
OUT_WORDS = re.compile(r"\b(type|typing|typing_extensions|enum|Enum|IntEnum|StrEnum|Flag|IntFlag|Generic|Protocol|ABC|"
                       r"ABCMeta|namedtuple|NamedTuple|TypedDict|TYPE_CHECKING|abstractmethod)\b"
                       r"|dataclass|overload|contextmanager")
NODES = set("""Module FunctionDef ClassDef arguments arg Return Assign AugAssign For While If Raise Try ExceptHandler
Expr Pass Break Continue BoolOp BinOp UnaryOp Lambda IfExp Dict Set ListComp comprehension Compare Call keyword
JoinedStr FormattedValue Constant Attribute Subscript Name List Tuple Slice Load Store ImportFrom alias And Or Add Sub
Mult Mod Pow LShift RShift BitOr BitXor BitAnd FloorDiv Invert Not UAdd USub Eq NotEq Lt LtE Gt GtE Is IsNot In
NotIn""".split())
METHODS = ("__init__", "__eq__", "__repr__", "__str__", "__len__")


def files():
    return sorted(PACKAGE.rglob("*.py"))


def bound_in(tree):
    names = set()
    for node in ast.walk(tree):
        if isinstance(node, (ast.FunctionDef, ast.ClassDef)):
            names.add(node.name)
        elif isinstance(node, ast.arg):
            names.add(node.arg)
        elif isinstance(node, ast.alias):
            names.add(node.name)
        elif isinstance(node, ast.Name) and isinstance(node.ctx, ast.Store):
            names.add(node.id)
        elif isinstance(node, ast.ExceptHandler) and node.name:
            names.add(node.name)
    return names


def own_attributes(trees):
    names = set()
    for tree in trees:
        for node in ast.walk(tree):
            if isinstance(node, ast.ClassDef):
                names.update(part.name for part in node.body if isinstance(part, ast.FunctionDef))
            elif isinstance(node, ast.Attribute) and isinstance(node.ctx, ast.Store):
                names.add(node.attr)
    return names


class Form(unittest.TestCase):
    def setUp(self):
        self.texts = {path: path.read_text(encoding="utf-8") for path in files()}
        self.trees = {path: ast.parse(text) for path, text in self.texts.items()}

    def each(self):
        for path, tree in self.trees.items():
            for node in ast.walk(tree):
                yield f"{path.name}:{getattr(node, 'lineno', 0)}", node

    def test_only_python_files_lie_there(self):
        self.assertIn(PACKAGE / "__init__.py", files())
        for path in PACKAGE.rglob("*"):
            if path.name != "__pycache__" and path.parent.name != "__pycache__":
                self.assertRegex(path.name, r"^[a-z0-9_]+\.py$")
                self.assertFalse(path.name.startswith("test"))

    def test_signs_sizes_and_words(self):
        for path, text in self.texts.items():
            rows = text.split("\n")
            self.assertLessEqual(len(rows), 401, path.name)
            for at, row in enumerate(rows, 1):
                where = f"{path.name}:{at}"
                self.assertLessEqual(len(row), 120, where)
                self.assertTrue(all(" " <= sign <= "~" for sign in row), where)
                self.assertIsNone(OUT_WORDS.search(row), where)

    def test_nodes(self):
        for where, node in self.each():
            self.assertIn(node.__class__.__name__, NODES, where)
            if isinstance(node, ast.Expr):
                self.assertTrue(isinstance(node.value, (ast.Call, ast.Constant)), where)
            if isinstance(node, ast.Assign):
                self.assertEqual(len(node.targets), 1, where)
            if isinstance(node, (ast.For, ast.While)):
                self.assertEqual(node.orelse, [], where)
            if isinstance(node, ast.Try):
                self.assertEqual(node.finalbody, [], where)
            if isinstance(node, ast.Constant):
                self.assertTrue(node.value is None or isinstance(node.value, (int, str)), where)
            if isinstance(node, ast.BinOp) and isinstance(node.op, ast.Pow):
                self.assertTrue(isinstance(node.right, ast.Constant) and 0 <= node.right.value <= 64, where)
            if isinstance(node, ast.Compare) and any(isinstance(op, (ast.Is, ast.IsNot)) for op in node.ops):
                self.assertTrue(isinstance(node.comparators[0], ast.Constant), where)
            if isinstance(node, ast.ListComp):
                self.assertEqual(len(node.generators), 1, where)
                self.assertLessEqual(len(node.generators[0].ifs), 1, where)

    def test_defs(self):
        for where, node in self.each():
            if isinstance(node, ast.FunctionDef):
                self.assertLessEqual(node.end_lineno - node.lineno + 1, 40, where)
                self.assertEqual(node.decorator_list, [], where)
                self.assertTrue(node.args.vararg is None and node.args.kwarg is None, where)
                self.assertEqual(node.args.kwonlyargs, [], where)
            if isinstance(node, ast.ClassDef):
                self.assertLessEqual(len(node.bases), 1, where)
                self.assertEqual(node.decorator_list + node.keywords, [], where)
                for part in node.body:
                    self.assertIsInstance(part, (ast.FunctionDef, ast.Pass), where)

    def test_imports(self):
        defined = {path.stem: {n.name for n in tree.body if isinstance(n, (ast.FunctionDef, ast.ClassDef))}
                   for path, tree in self.trees.items()}
        draws = {}
        for path, tree in self.trees.items():
            for node in ast.walk(tree):
                if isinstance(node, ast.ImportFrom):
                    where = f"{path.name}:{node.lineno}"
                    self.assertEqual((node.level, node.module.split(".")[0]), (0, "rootspan"), where)
                    self.assertIn(node, tree.body, where)
                    source = node.module.split(".")[1]
                    self.assertTrue({name.name for name in node.names} <= defined[source], where)
                    draws.setdefault(path.stem, set()).add(source)
        self.assertFalse(self.rings(draws), draws)

    # Files that draw on nothing that is left fall away; what stays draws in a ring.
    def rings(self, draws):
        left = dict(draws)
        while True:
            free = [name for name in left if not left[name] & set(left)]
            if not free:
                return left
            for name in free:
                del left[name]

    def test_names(self):
        own = own_attributes(self.trees.values())
        for path, tree in self.trees.items():
            bound = bound_in(tree)
            for name in bound - set(METHODS):
                self.assertRegex(name, r"^[A-Za-z][A-Za-z0-9_]*$", path.name)
                self.assertNotIn(name, dir(builtins), path.name)
            for node in ast.walk(tree):
                where = f"{path.name}:{getattr(node, 'lineno', 0)}"
                if isinstance(node, ast.Name):
                    self.assertIn(node.id, bound | OWN_NAMES, where)
                if isinstance(node, ast.Attribute):
                    self.assertIn(node.attr, own | OWN_METHODS, where)

    def test_no_local_is_called_like_a_class_or_an_import(self):
        for path, tree in self.trees.items():
            taken = {n.name for n in tree.body if isinstance(n, ast.ClassDef)}
            taken |= {name.name for n in tree.body if isinstance(n, ast.ImportFrom) for name in n.names}
            for node in ast.walk(tree):
                name = node.arg if isinstance(node, ast.arg) else None
                if isinstance(node, ast.Name) and isinstance(node.ctx, ast.Store):
                    name = node.id
                self.assertNotIn(name, taken, path.name)

    # L18 and L26: methods and values of the package's own.
    def test_methods_and_values(self):
        methods, values = set(), set()
        for tree in self.trees.values():
            for node in ast.walk(tree):
                if isinstance(node, ast.ClassDef):
                    names = [part.name for part in node.body if isinstance(part, ast.FunctionDef)]
                    self.assertEqual(len(names), len(set(names)), node.name)
                    methods.update(set(names) - set(METHODS))
                elif isinstance(node, ast.Attribute) and isinstance(node.ctx, ast.Store):
                    values.add(node.attr)
        self.assertEqual(methods & values, set())
        taken = set().union(*[dir(kind) for kind in (str, int, list, dict, set, frozenset, bytes, tuple, float, Exception)])
        self.assertEqual((methods | values) & taken, set())
        self.assertEqual((methods | values) & set("register mro elements open input version_info format args".split()), set())

    # L18: a class is called, is a base, or stands by isinstance, except or raise.
    def test_where_classes_stand(self):
        classes = {node.name for tree in self.trees.values() for node in tree.body if isinstance(node, ast.ClassDef)}
        classes |= {"ValueError"}
        for path, tree in self.trees.items():
            free = set()
            for node in ast.walk(tree):
                if isinstance(node, ast.Call):
                    free.add(id(node.func))
                    if isinstance(node.func, ast.Name) and node.func.id == "isinstance":
                        free.update(id(part) for part in ast.walk(node.args[1]))
                elif isinstance(node, ast.ClassDef):
                    free.update(map(id, node.bases))
                elif isinstance(node, ast.ExceptHandler):
                    self.assertIsNotNone(node.type)
                    free.update(id(part) for part in ast.walk(node.type))
                elif isinstance(node, ast.Attribute):
                    self.assertFalse(isinstance(node.value, ast.Name) and node.value.id in classes and node.attr != "__init__")
            for node in ast.walk(tree):
                if isinstance(node, ast.Name) and node.id in classes:
                    self.assertIn(id(node), free, f"{path.name}:{node.lineno}")

    # L22 and L23: Python's own names are called, with few keywords, and what is walked is walked on the spot.
    def test_how_names_of_pythons_own_are_called(self):
        keywords = {"sorted": {"key", "reverse"}, "min": {"key", "default"}, "max": {"key", "default"}, "sum": {"start"}, "enumerate": {"start"}, "zip": {"strict"}}
        walkers = ("list", "tuple", "dict", "sorted", "sum", "any", "all", "enumerate", "zip", "min", "max")
        for path, tree in self.trees.items():
            called, walked = set(), set()
            for node in ast.walk(tree):
                if isinstance(node, ast.Call):
                    called.add(id(node.func))
                    name = node.func.id if isinstance(node.func, ast.Name) else None
                    if name in OWN_NAMES or (isinstance(node.func, ast.Attribute) and node.func.attr in OWN_METHODS):
                        self.assertTrue({word.arg for word in node.keywords} <= keywords.get(name, set()), f"{path.name}:{node.lineno}")
                    if name in walkers:
                        walked.update(map(id, node.args if name == "zip" else node.args[:1]))
                    if isinstance(node.func, ast.Attribute) and node.func.attr == "join":
                        self.assertIsInstance(node.func.value, ast.Constant)
                        walked.update(map(id, node.args))
                    if name == "isinstance":
                        called.update(id(part) for part in ast.walk(node.args[1]))
                elif isinstance(node, (ast.For, ast.comprehension)):
                    walked.add(id(node.iter))
                elif isinstance(node, ast.ClassDef):
                    called.update(map(id, node.bases))
                elif isinstance(node, ast.ExceptHandler):
                    called.update(id(part) for part in ast.walk(node.type))
            for node in ast.walk(tree):
                where = f"{path.name}:{getattr(node, 'lineno', 0)}"
                if isinstance(node, ast.Name) and node.id in OWN_NAMES:
                    self.assertIn(id(node), called, where)
                if isinstance(node, ast.Attribute) and node.attr in OWN_METHODS:
                    self.assertIn(id(node), called, where)
                if isinstance(node, ast.Call):
                    name = node.func.id if isinstance(node.func, ast.Name) else getattr(node.func, "attr", None)
                    if name in ("zip", "enumerate", "reversed", "range", "items", "keys", "values"):
                        self.assertIn(id(node), walked, where)

    # L27: no sign that marks a place within a text, and no escape but a few.
    def test_texts(self):
        for where, node in self.each():
            if isinstance(node, ast.Constant) and isinstance(node.value, str):
                self.assertNotIn("%", node.value, where)
                self.assertTrue(all(" " <= sign <= "~" or sign in "\n\t" for sign in node.value), where)


if __name__ == "__main__":
    unittest.main()
