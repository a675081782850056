"""The package keeps to its small part of Python; what can be seen in the files is looked at here."""

import ast
import builtins
import pathlib
import re
import unittest

PACKAGE = pathlib.Path(__file__).resolve().parent.parent / "editvalues"

STATEMENTS = (
    ast.Assign, ast.AugAssign, ast.If, ast.While, ast.For, ast.Return, ast.Break, ast.Continue, ast.Pass, ast.Raise,
    ast.Try, ast.Expr, ast.FunctionDef, ast.ClassDef, ast.ImportFrom,
)
EXPRESSIONS = (
    ast.Constant, ast.List, ast.Tuple, ast.Dict, ast.BinOp, ast.UnaryOp, ast.BoolOp, ast.Compare, ast.IfExp, ast.Call,
    ast.Attribute, ast.Subscript, ast.Slice, ast.ListComp, ast.Name,
)
BUILTINS = (
    "len range enumerate zip min max sum abs sorted reversed int str bool list tuple dict set frozenset isinstance ord"
    " repr any all divmod Exception ValueError TypeError KeyError IndexError LookupError ZeroDivisionError"
    " ArithmeticError OverflowError RuntimeError NotImplementedError AttributeError StopIteration"
).split()
METHODS = (
    "append clear copy count endswith extend find get index insert isalnum isalpha isdigit islower isspace isupper"
    " items join keys ljust lower lstrip partition pop remove replace reverse rfind rjust rpartition rsplit rstrip"
    " setdefault split splitlines startswith strip update upper values zfill bit_length"
).split()
WORDS = (
    "type typing typing_extensions enum Enum IntEnum StrEnum Flag IntFlag Generic Protocol ABC ABCMeta namedtuple"
    " NamedTuple TypedDict TYPE_CHECKING abstractmethod"
).split()
# What the own methods and values of an object are not called like.
PYTHONS_OWN = [name for kind in (str, int, list, tuple, dict, set, bytes) for name in dir(kind)]


def trees():
    for path in sorted(PACKAGE.glob("*.py")):
        yield path, ast.parse(path.read_text(encoding="ascii"))


def names_bound(node):
    """The names that a statement at a file's top binds."""
    if isinstance(node, ast.ImportFrom):
        return [each.name for each in node.names]
    if isinstance(node, ast.Assign):
        return [node.targets[0].id]
    return [node.name]


class LanguageTest(unittest.TestCase):
    def test_files(self):
        for path in PACKAGE.iterdir():
            if path.name == "__pycache__":
                continue
            self.assertRegex(path.name, r"^[a-z0-9_]+\.py$")
            self.assertNotIn(path.stem, vars(builtins))
            source = path.read_bytes()
            self.assertLessEqual(set(source), set(range(32, 127)) | {10}, path)
            lines = source.decode("ascii").splitlines()
            self.assertLessEqual(len(lines), 399, path)
            self.assertLessEqual(max(len(line) for line in lines), 120, path)

    def test_words(self):
        for path in PACKAGE.glob("*.py"):
            source = path.read_text(encoding="ascii")
            self.assertEqual([word for word in re.findall(r"\w+", source) if word in WORDS], [], path)
            self.assertIsNone(re.search("dataclass|overload|contextmanager", source), path)

    def test_statements_and_expressions(self):
        for path, tree in trees():
            for node in ast.walk(tree):
                place = (path.name, getattr(node, "lineno", 0), ast.dump(node)[:80])
                if isinstance(node, ast.stmt):
                    self.assertIsInstance(node, STATEMENTS, place)
                if isinstance(node, ast.expr):
                    self.assertIsInstance(node, EXPRESSIONS, place)
                if isinstance(node, ast.Assign):
                    self.assertEqual(len(node.targets), 1, place)
                if isinstance(node, (ast.While, ast.For)):
                    self.assertEqual(node.orelse, [], place)
                if isinstance(node, ast.Constant):
                    self.assertIsInstance(node.value, (int, str, type(None)), place)
                if isinstance(node, ast.BinOp):
                    self.assertNotIsInstance(node.op, ast.Div, place)

    def test_functions(self):
        for path, tree in trees():
            for node in ast.walk(tree):
                if isinstance(node, ast.FunctionDef):
                    place = (path.name, node.name)
                    self.assertLessEqual(node.end_lineno - node.lineno + 1, 40, place)
                    self.assertEqual((node.decorator_list, node.args.vararg, node.args.kwarg), ([], None, None), place)

    def test_names(self):
        for path, tree in trees():
            for node in ast.walk(tree):
                place = (path.name, getattr(node, "lineno", 0))
                if isinstance(node, ast.Name) and hasattr(builtins, node.id):
                    self.assertIn(node.id, BUILTINS, place)
                    self.assertIsInstance(node.ctx, ast.Load, place)
                if isinstance(node, ast.arg):
                    self.assertFalse(hasattr(builtins, node.arg), place)
                named = getattr(node, "id", getattr(node, "arg", getattr(node, "attr", getattr(node, "name", "a"))))
                if named != "__init__":
                    self.assertRegex(named, r"^[A-Za-z][A-Za-z0-9_]*$", place)

    def test_the_top_of_a_module(self):
        for path, tree in trees():
            self.assertIsNotNone(ast.get_docstring(tree), path.name)
            bound = []
            for node in tree.body[1:]:
                place = (path.name, node.lineno)
                self.assertIsInstance(node, (ast.ImportFrom, ast.FunctionDef, ast.ClassDef, ast.Assign), place)
                bound += names_bound(node)
                if isinstance(node, ast.Assign):
                    self.assertFalse(any(isinstance(each, ast.Call) for each in ast.walk(node)), place)
            self.assertEqual(sorted(bound), sorted(set(bound)), path.name)

    def test_no_local_is_called_like_an_import_or_a_class(self):
        for path, tree in trees():
            taken = [name for node in tree.body if isinstance(node, (ast.ImportFrom, ast.ClassDef))
                     for name in names_bound(node)]
            for node in ast.walk(tree):
                place = (path.name, getattr(node, "lineno", 0))
                if isinstance(node, ast.arg):
                    self.assertNotIn(node.arg, taken, place)
                if isinstance(node, ast.Name) and isinstance(node.ctx, ast.Store):
                    self.assertNotIn(node.id, taken, place)

    def test_classes(self):
        methods = []
        values = []
        for path, tree in trees():
            for node in ast.walk(tree):
                if isinstance(node, ast.ClassDef):
                    self.assertIn(node, tree.body, path.name)
                    self.assertTrue(all(isinstance(each, ast.FunctionDef) for each in node.body), path.name)
                    methods += [each.name for each in node.body if each.name != "__init__"]
                if isinstance(node, ast.Attribute) and isinstance(node.ctx, ast.Store):
                    values.append(node.attr)
        self.assertEqual(sorted(methods), sorted(set(methods)))
        for name in methods + values:
            self.assertNotIn(name, PYTHONS_OWN)
        self.assertFalse(set(methods) & set(values))

    def test_is_stands_beside_none_alone(self):
        for path, tree in trees():
            for node in ast.walk(tree):
                if isinstance(node, ast.Compare) and any(isinstance(op, (ast.Is, ast.IsNot)) for op in node.ops):
                    self.assertIsNone(getattr(node.comparators[0], "value", node), (path.name, node.lineno))

    def test_methods(self):
        own = [n.name for path, tree in trees() for n in ast.walk(tree) if isinstance(n, ast.FunctionDef)]
        for path, tree in trees():
            for node in ast.walk(tree):
                if isinstance(node, ast.Call) and isinstance(node.func, ast.Attribute):
                    self.assertIn(node.func.attr, METHODS + own, (path.name, node.lineno))

    def test_imports(self):
        for path, tree in trees():
            for node in ast.walk(tree):
                if isinstance(node, ast.ImportFrom):
                    place = (path.name, node.lineno)
                    self.assertIn(node, tree.body, place)
                    self.assertRegex(node.module, r"^editvalues\.[a-z]+$", place)
                    defined = (PACKAGE / (node.module.split(".")[1] + ".py")).read_text(encoding="ascii")
                    for name in node.names:
                        self.assertIsNone(name.asname, place)
                        self.assertRegex(defined, rf"(?m)^(def |class )?{name.name}\b", place)


if __name__ == "__main__":
    unittest.main()
