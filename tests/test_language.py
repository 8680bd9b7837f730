"""The package keeps to its small part of Python: the rules that can be seen in the files."""

import ast
import builtins
import pathlib
import re
import unittest

PACKAGE = pathlib.Path(__file__).resolve().parent.parent / "handflow"
FILES = sorted(path for path in PACKAGE.rglob("*") if path.is_file() and "__pycache__" not in path.parts)

NODES = (
    ast.Module, ast.ImportFrom, ast.alias, ast.FunctionDef, ast.ClassDef, ast.Lambda, ast.arguments, ast.arg,
    ast.Assign, ast.AugAssign, ast.If, ast.While, ast.For, ast.Return, ast.Break, ast.Continue, ast.Pass, ast.Raise,
    ast.Try, ast.ExceptHandler, ast.Expr, ast.Constant, ast.List, ast.Tuple, ast.Dict, ast.BinOp, ast.UnaryOp,
    ast.BoolOp, ast.Compare, ast.IfExp, ast.Call, ast.keyword, ast.Attribute, ast.Subscript, ast.Slice,
    ast.ListComp, ast.comprehension, ast.JoinedStr, ast.FormattedValue, ast.Name, ast.expr_context,
    ast.operator, ast.unaryop, ast.boolop, ast.cmpop,
)
BUILTINS = """
len range enumerate zip min max sum abs sorted reversed int str bool list tuple dict set frozenset isinstance ord
repr any all divmod Exception ValueError TypeError KeyError IndexError LookupError ZeroDivisionError
ArithmeticError OverflowError RuntimeError NotImplementedError StopIteration
""".split()
METHODS = """
append clear copy count endswith extend find get index insert isalnum isalpha isdigit islower isspace isupper items
join keys ljust lower lstrip partition pop remove replace reverse rfind rjust rpartition rsplit rstrip setdefault
split splitlines startswith strip update upper values zfill bit_length
""".split()
DUNDERS = ("__init__", "__eq__", "__repr__", "__str__", "__len__")
WORDS = """
type typing typing_extensions enum Enum IntEnum StrEnum Flag IntFlag Generic Protocol ABC ABCMeta namedtuple
NamedTuple TypedDict TYPE_CHECKING abstractmethod
""".split()
WITHIN_WORDS = ("dataclass", "overload", "contextmanager")
UNUSED = ("register", "mro", "elements", "open", "input", "version_info", "with_traceback", "add_note", "format")


def is_docstring(node):
    return isinstance(node, ast.Expr) and isinstance(node.value, ast.Constant) and isinstance(node.value.value, str)


def is_plain(node):
    if isinstance(node, ast.Dict):
        return all(is_plain(part) for part in node.keys + node.values)
    if isinstance(node, (ast.List, ast.Tuple)):
        return all(is_plain(part) for part in node.elts)
    if isinstance(node, ast.BinOp):
        return is_plain(node.left) and is_plain(node.right)
    return isinstance(node, (ast.Constant, ast.Name))


def top_names(tree):
    for node in tree.body:
        if isinstance(node, (ast.FunctionDef, ast.ClassDef)):
            yield node.name
        elif isinstance(node, ast.Assign):
            yield node.targets[0].id


def bound_names(tree):
    for node in ast.walk(tree):
        if isinstance(node, (ast.FunctionDef, ast.ClassDef)):
            yield node.name
        elif isinstance(node, ast.arg):
            yield node.arg
        elif isinstance(node, ast.Name) and isinstance(node.ctx, ast.Store):
            yield node.id
        elif isinstance(node, ast.Attribute):
            yield node.attr


def is_walked(func):
    if isinstance(func, ast.Name):
        return func.id in ("zip", "enumerate", "reversed", "range")
    return isinstance(func, ast.Attribute) and func.attr in ("items", "keys", "values")


class Language(unittest.TestCase):
    def each_file(self, check):
        for path in FILES:
            with self.subTest(path=path.name):
                check(path, ast.parse(path.read_text()))

    def test_there_are_files(self):
        self.assertIn(PACKAGE / "__init__.py", FILES)

    def test_file_names_and_signs(self):
        for path in FILES:
            with self.subTest(path=path.name):
                self.assertRegex(path.name, r"\A[a-z0-9_]+\.py\Z")
                self.assertEqual(path.parent, PACKAGE)
                self.assertNotIn(path.stem, dir(builtins))
                self.assertRegex(path.read_bytes().decode(), r"\A[\n -~]*\Z")

    def test_sizes(self):
        def check(path, tree):
            rows = path.read_text().split("\n")
            self.assertLessEqual(len(rows), 400)
            self.assertLessEqual(max(len(row) for row in rows), 120)
            for node in ast.walk(tree):
                if isinstance(node, ast.FunctionDef):
                    self.assertLessEqual(node.end_lineno - node.lineno + 1, 40, node.name)

        self.each_file(check)

    def test_imports(self):
        def check(path, tree):
            for node in ast.walk(tree):
                self.assertNotIsInstance(node, ast.Import)
                if isinstance(node, ast.ImportFrom):
                    self.assertIn(node, tree.body)
                    self.assertEqual(node.level, 0)
                    self.assertRegex(node.module, r"\Ahandflow\.[a-z]+\Z")
                    self.assertTrue((PACKAGE / (node.module.split(".")[1] + ".py")).is_file())
                    self.assertTrue(all(part.asname is None and part.name != "*" for part in node.names))
            if path.name == "__init__.py":
                self.assertTrue(all(is_docstring(node) for node in tree.body))

        self.each_file(check)

    def test_names_come_from_the_file_that_defines_them(self):
        tops = {path.stem: set(top_names(ast.parse(path.read_text()))) for path in FILES}

        def check(path, tree):
            for node in tree.body:
                if isinstance(node, ast.ImportFrom):
                    for part in node.names:
                        self.assertIn(part.name, tops[node.module.split(".")[1]])

        self.each_file(check)

    def test_no_two_files_draw_from_one_another(self):
        drawn = {path.stem: [node.module.split(".")[1] for node in ast.parse(path.read_text()).body
                             if isinstance(node, ast.ImportFrom)] for path in FILES}
        while drawn:
            free = [name for name in drawn if not any(other in drawn for other in drawn[name])]
            self.assertTrue(free, drawn)
            for name in free:
                drawn.pop(name)

    def test_sets_are_used_on_the_spot(self):
        def check(path, tree):
            above = {child: node for node in ast.walk(tree) for child in ast.iter_child_nodes(node)}
            for node in ast.walk(tree):
                if isinstance(node, ast.Call) and ast.unparse(node.func) in ("set", "frozenset"):
                    user = above[node]
                    while isinstance(user, ast.BinOp):
                        user = above[user]
                    self.assertIsInstance(user, (ast.Call, ast.Compare))
                    if isinstance(user, ast.Call):
                        self.assertIn(ast.unparse(user.func), ("sorted", "len"))
                        self.assertEqual(user.keywords, [])

        self.each_file(check)

    def test_keywords_of_calls(self):
        known = {"sorted": {"key", "reverse"}, "min": {"key", "default"}, "max": {"key", "default"},
                 "sum": {"start"}, "enumerate": {"start"}, "zip": {"strict"}}

        def check(path, tree):
            for node in ast.walk(tree):
                if isinstance(node, ast.Call) and hasattr(builtins, ast.unparse(node.func)):
                    self.assertLessEqual({part.arg for part in node.keywords}, known.get(node.func.id, set()))

        self.each_file(check)

    def test_the_top_of_a_module(self):
        def check(path, tree):
            self.assertTrue(is_docstring(tree.body[0]))
            for node in tree.body[1:]:
                self.assertIsInstance(node, (ast.ImportFrom, ast.FunctionDef, ast.ClassDef, ast.Assign))
                if isinstance(node, ast.Assign):
                    self.assertTrue(is_plain(node.value), node.lineno)

        self.each_file(check)

    def test_forms(self):
        def check(path, tree):
            for node in ast.walk(tree):
                self.assertIsInstance(node, NODES)
                self.assertNotIsInstance(node, (ast.Div, ast.MatMult))
                self.assertFalse(getattr(node, "decorator_list", []))
                self.assertFalse(isinstance(node, (ast.For, ast.While)) and node.orelse)
                self.assertFalse(isinstance(node, ast.Try) and node.finalbody)
                self.assertFalse(isinstance(node, ast.Assign) and len(node.targets) != 1)
                if isinstance(node, ast.ListComp):
                    self.assertEqual(len(node.generators), 1)
                    self.assertLessEqual(len(node.generators[0].ifs), 1)
                if isinstance(node, ast.Expr):
                    self.assertTrue(isinstance(node.value, ast.Call) or node is tree.body[0])
                if isinstance(node, ast.Constant):
                    self.assertNotIsInstance(node.value, (float, bytes, complex))
                    self.assertFalse(isinstance(node.value, str) and "%" in node.value)
                if isinstance(node, ast.FormattedValue):
                    self.assertIsInstance(node.value, ast.Name)
                    self.assertIsNone(node.format_spec)

        self.each_file(check)

    def test_is_stands_beside_plain_words(self):
        def check(path, tree):
            for node in ast.walk(tree):
                if isinstance(node, ast.Compare) and any(isinstance(op, (ast.Is, ast.IsNot)) for op in node.ops):
                    right = node.comparators[-1]
                    self.assertIsInstance(right, ast.Constant)
                    self.assertIn(repr(right.value), ("None", "True", "False"))

        self.each_file(check)

    def test_classes(self):
        def check(path, tree):
            for node in ast.walk(tree):
                if isinstance(node, ast.ClassDef):
                    self.assertIn(node, tree.body)
                    self.assertLessEqual(len(node.bases), 1)
                    self.assertTrue(all(isinstance(part, (ast.FunctionDef, ast.Pass)) for part in node.body))

        self.each_file(check)

    def test_no_name_is_a_method_and_a_value(self):
        methods = set()
        values = set()

        def check(path, tree):
            for node in ast.walk(tree):
                if isinstance(node, ast.ClassDef):
                    methods.update(part.name for part in node.body if isinstance(part, ast.FunctionDef))
                if isinstance(node, ast.Attribute) and isinstance(node.ctx, ast.Store):
                    self.assertIsInstance(node.value, ast.Name)
                    values.add(node.attr)

        self.each_file(check)
        self.assertEqual(methods & values, set())

    def test_names(self):
        def check(path, tree):
            for name in bound_names(tree):
                self.assertTrue(name in DUNDERS or not name.startswith("_"), name)
                self.assertNotIn(name, UNUSED)
            for node in ast.walk(tree):
                if isinstance(node, ast.Name):
                    self.assertTrue(node.id in BUILTINS or not hasattr(builtins, node.id), node.id)
                    self.assertFalse(isinstance(node.ctx, ast.Store) and hasattr(builtins, node.id), node.id)
                if isinstance(node, ast.arg):
                    self.assertFalse(hasattr(builtins, node.arg), node.arg)

        self.each_file(check)

    def test_no_local_is_called_like_a_class_or_an_import(self):
        def check(path, tree):
            above = {part.name for node in tree.body if isinstance(node, ast.ImportFrom) for part in node.names}
            above |= {node.name for node in tree.body if isinstance(node, ast.ClassDef)}
            for node in ast.walk(tree):
                if isinstance(node, ast.arg):
                    self.assertNotIn(node.arg, above)
                if isinstance(node, ast.Name) and isinstance(node.ctx, ast.Store):
                    self.assertNotIn(node.id, above)

        self.each_file(check)

    def test_what_is_walked_at_once(self):
        walkers = ("list", "tuple", "dict", "sorted", "sum", "any", "all", "enumerate", "zip", "min", "max")

        def check(path, tree):
            above = {child: node for node in ast.walk(tree) for child in ast.iter_child_nodes(node)}
            for node in ast.walk(tree):
                if isinstance(node, ast.Call) and is_walked(node.func):
                    user = above[node]
                    if isinstance(user, ast.Call):
                        self.assertIn(ast.unparse(user.func), walkers)
                    else:
                        self.assertIsInstance(user, (ast.For, ast.comprehension))

        self.each_file(check)

    def test_methods(self):
        trees = [ast.parse(path.read_text()) for path in FILES]
        own = {part.name for tree in trees for node in ast.walk(tree) if isinstance(node, ast.ClassDef)
               for part in node.body if isinstance(part, ast.FunctionDef)}
        for tree in trees:
            for node in ast.walk(tree):
                if isinstance(node, ast.Call) and isinstance(node.func, ast.Attribute):
                    self.assertTrue(node.func.attr in METHODS or node.func.attr in own, node.func.attr)

    def test_words_that_stand_nowhere(self):
        for path in FILES:
            with self.subTest(path=path.name):
                text = path.read_text()
                found = set(re.findall(r"\w+", text))
                self.assertEqual(found & set(WORDS), set())
                self.assertEqual([word for word in WITHIN_WORDS if word in text], [])


if __name__ == "__main__":
    unittest.main()
