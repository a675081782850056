"""The package keeps to its small part of Python; what can be seen in the files is looked at here."""

import ast
import builtins
import pathlib
import re
import unittest

PACKAGE = pathlib.Path(__file__).resolve().parent.parent / "editvalues"

STATEMENTS = (
    ast.Assign, ast.AugAssign, ast.If, ast.While, ast.For, ast.Return, ast.Break, ast.Continue, ast.Pass, ast.Raise,
    ast.Try, ast.Expr, ast.FunctionDef, ast.ClassDef, ast.ImportFrom,
)
EXPRESSIONS = (
    ast.Constant, ast.List, ast.Tuple, ast.Dict, ast.BinOp, ast.UnaryOp, ast.BoolOp, ast.Compare, ast.IfExp, ast.Call,
    ast.Attribute, ast.Subscript, ast.Slice, ast.ListComp, ast.Name,
)
BUILTINS = (
    "len range enumerate zip min max sum abs sorted reversed int str bool list tuple dict set frozenset isinstance ord"
    " repr any all divmod Exception ValueError TypeError KeyError IndexError LookupError ZeroDivisionError"
    " ArithmeticError OverflowError RuntimeError NotImplementedError AttributeError StopIteration"
).split()
METHODS = (
    "append clear copy count endswith extend find get index insert isalnum isalpha isdigit islower isspace isupper"
    " items join keys ljust lower lstrip partition pop remove replace reverse rfind rjust rpartition rsplit rstrip"
    " setdefault split splitlines startswith strip update upper values zfill bit_length"
).split()
WORDS = (
    "type typing typing_extensions enum Enum IntEnum StrEnum Flag IntFlag Generic Protocol ABC ABCMeta namedtuple"
    " NamedTuple TypedDict TYPE_CHECKING abstractmethod"
).split()


def trees():
    for path in sorted(PACKAGE.glob("*.py")):
        yield path, ast.parse(path.read_text(encoding="ascii"))


class LanguageTest(unittest.TestCase):
    def test_files(self):
        for path in PACKAGE.iterdir():
            if path.name == "__pycache__":
                continue
            self.assertRegex(path.name, r"^[a-z0-9_]+\.py$")
            self.assertNotIn(path.stem, vars(builtins))
            source = path.read_bytes()
            self.assertLessEqual(set(source), set(range(32, 127)) | {10}, path)
            lines = source.decode("ascii").splitlines()
            self.assertLessEqual(len(lines), 399, path)
            self.assertLessEqual(max(len(line) for line in lines), 120, path)

    def test_words(self):
        for path in PACKAGE.glob("*.py"):
            source = path.read_text(encoding="ascii")
            self.assertEqual([word for word in re.findall(r"\w+", source) if word in WORDS], [], path)
            self.assertIsNone(re.search("dataclass|overload|contextmanager", source), path)

    def test_statements_and_expressions(self):
        for path, tree in trees():
            for node in ast.walk(tree):
                place = (path.name, getattr(node, "lineno", 0), ast.dump(node)[:80])
                if isinstance(node, ast.stmt):
                    self.assertIsInstance(node, STATEMENTS, place)
                if isinstance(node, ast.expr):
                    self.assertIsInstance(node, EXPRESSIONS, place)
                if isinstance(node, ast.Assign):
                    self.assertEqual(len(node.targets), 1, place)
                if isinstance(node, (ast.While, ast.For)):
                    self.assertEqual(node.orelse, [], place)
                if isinstance(node, ast.Constant):
                    self.assertIsInstance(node.value, (int, str, type(None)), place)
                if isinstance(node, ast.BinOp):
                    self.assertNotIsInstance(node.op, ast.Div, place)

    def test_functions(self):
        for path, tree in trees():
            for node in ast.walk(tree):
                if isinstance(node, ast.FunctionDef):
                    place = (path.name, node.name)
                    self.assertLessEqual(node.end_lineno - node.lineno + 1, 40, place)
                    self.assertEqual((node.decorator_list, node.args.vararg, node.args.kwarg), ([], None, None), place)

    def test_names(self):
        for path, tree in trees():
            for node in ast.walk(tree):
                place = (path.name, getattr(node, "lineno", 0))
                if isinstance(node, ast.Name) and hasattr(builtins, node.id):
                    self.assertIn(node.id, BUILTINS, place)
                    self.assertIsInstance(node.ctx, ast.Load, place)
                if isinstance(node, ast.arg):
                    self.assertFalse(hasattr(builtins, node.arg), place)
                named = getattr(node, "id", getattr(node, "arg", getattr(node, "attr", getattr(node, "name", "a"))))
                if named != "__init__":
                    self.assertRegex(named, r"^[A-Za-z][A-Za-z0-9_]*$", place)

    def test_methods(self):
        own = [n.name for path, tree in trees() for n in ast.walk(tree) if isinstance(n, ast.FunctionDef)]
        for path, tree in trees():
            for node in ast.walk(tree):
                if isinstance(node, ast.Call) and isinstance(node.func, ast.Attribute):
                    self.assertIn(node.func.attr, METHODS + own, (path.name, node.lineno))

    def test_imports(self):
        for path, tree in trees():
            for node in ast.walk(tree):
                if isinstance(node, ast.ImportFrom):
                    place = (path.name, node.lineno)
                    self.assertIn(node, tree.body, place)
                    self.assertRegex(node.module, r"^editvalues\.[a-z]+$", place)
                    defined = (PACKAGE / (node.module.split(".")[1] + ".py")).read_text(encoding="ascii")
                    for name in node.names:
                        self.assertIsNone(name.asname, place)
                        self.assertRegex(defined, rf"(?m)^(def |class )?{name.name}\b", place)


if __name__ == "__main__":
    unittest.main()
