"""Holds the package to the part of Python that it keeps to, as far as a walk over the code can see it."""

import ast
import builtins
import pathlib
import re
import tokenize
import unittest

PACKAGE = pathlib.Path(__file__).resolve().parent.parent / "slowroad"

STATEMENTS = (
    ast.Assign, ast.AugAssign, ast.If, ast.While, ast.For, ast.Return, ast.Break, ast.Continue, ast.Pass, ast.Raise,
    ast.Try, ast.Expr, ast.FunctionDef, ast.ClassDef, ast.ImportFrom,
)
EXPRESSIONS = (
    ast.Constant, ast.List, ast.Tuple, ast.Dict, ast.Set, ast.BinOp, ast.UnaryOp, ast.BoolOp, ast.Compare, ast.IfExp,
    ast.Call, ast.Attribute, ast.Subscript, ast.Slice, ast.ListComp, ast.JoinedStr, ast.FormattedValue, ast.Lambda,
    ast.Name,
)
OWN_NAMES = set(
    "len range enumerate zip min max sum abs sorted reversed int str bool list tuple dict set frozenset isinstance ord "
    "repr any all divmod Exception ValueError KeyError IndexError LookupError ZeroDivisionError ArithmeticError "
    "OverflowError RuntimeError NotImplementedError StopIteration".split()
)
METHODS = set(
    "append clear copy count endswith extend find get index insert isalnum isalpha isdigit islower isspace isupper "
    "items join keys ljust lower lstrip partition pop remove replace reverse rfind rjust rpartition rsplit rstrip "
    "setdefault split splitlines startswith strip update upper values zfill bit_length".split()
)
DUNDERS = ("__init__", "__eq__", "__repr__", "__str__", "__len__")
UNUSED = set("register mro elements open input version_info with_traceback add_note format format_map args".split())
WORDS = re.compile(
    r"\b(type|typing|typing_extensions|enum|Enum|IntEnum|StrEnum|Flag|IntFlag|Generic|Protocol|ABC|ABCMeta|namedtuple"
    r"|NamedTuple|TypedDict|TYPE_CHECKING|abstractmethod)\b"
    r"|dataclass|overload|contextmanager"
)


def files():
    return sorted(path for path in PACKAGE.rglob("*") if "__pycache__" not in path.parts and path.is_file())


def trees():
    return [(path, ast.parse(path.read_text("utf-8"))) for path in files()]


def nodes(kind):
    return [(path.name, node) for path, tree in trees() for node in ast.walk(tree) if isinstance(node, kind)]


class Form(unittest.TestCase):
    def test_files(self):
        self.assertIn(PACKAGE / "__init__.py", files())
        for path in files():
            self.assertRegex(path.name, r"^[a-z0-9_]+\.py$")
            self.assertFalse(path.stem != "__init__" and hasattr(builtins, path.stem), path)

    def test_signs_and_sizes(self):
        for path in files():
            text = path.read_bytes().decode("ascii")
            self.assertTrue(all(sign == "\n" or " " <= sign <= "~" for sign in text), path)
            self.assertLessEqual(len(text.split("\n")), 400, path)
            self.assertLessEqual(max(len(line) for line in text.split("\n")), 120, path)
        for name, node in nodes(ast.FunctionDef):
            self.assertLessEqual(node.end_lineno - node.lineno + 1, 40, (name, node.name))

    def test_words_that_stand_nowhere(self):
        for path in files():
            self.assertIsNone(WORDS.search(path.read_text("utf-8")), path)

    def test_statements_and_expressions(self):
        for name, node in nodes(ast.stmt):
            self.assertIsInstance(node, STATEMENTS, (name, node.lineno))
        for name, node in nodes(ast.expr):
            self.assertIsInstance(node, EXPRESSIONS, (name, node.lineno))
        for name, node in nodes((ast.For, ast.While)):
            self.assertEqual(node.orelse, [], (name, node.lineno))
        for name, node in nodes(ast.Assign):
            self.assertEqual(len(node.targets), 1, (name, node.lineno))
        for name, node in nodes(ast.ListComp):
            self.assertEqual(len(node.generators), 1, (name, node.lineno))
            self.assertLessEqual(len(node.generators[0].ifs), 1, (name, node.lineno))
        for name, node in nodes(ast.BinOp):
            self.assertNotIsInstance(node.op, (ast.Div, ast.MatMult), (name, node.lineno))

    def test_values(self):
        for name, node in nodes(ast.Constant):
            self.assertIn(type(node.value), (int, str, bool, type(None)), (name, node.lineno))
            if isinstance(node.value, str):
                self.assertNotIn(chr(37), node.value, (name, node.lineno))

    def test_escapes(self):
        for path in files():
            with open(path, "rb") as stream:
                for token in tokenize.tokenize(stream.readline):
                    if token.type == tokenize.STRING:
                        rest = re.sub(r"\\[nt\\'\"]", "", token.string)
                        self.assertNotIn("\\", rest, (path, token.start))

    def test_top_of_a_file(self):
        for path, tree in trees():
            bound = []
            for at, node in enumerate(tree.body):
                self.assertNotIsInstance(node, (ast.If, ast.For, ast.While, ast.Try), (path, node.lineno))
                if isinstance(node, ast.Expr):
                    self.assertEqual(at, 0, (path, node.lineno))
                if isinstance(node, (ast.FunctionDef, ast.ClassDef)):
                    bound.append(node.name)
                if isinstance(node, ast.Assign):
                    bound.append(node.targets[0].id)
                if isinstance(node, ast.ImportFrom):
                    bound.extend(alias.name for alias in node.names)
            self.assertEqual(len(bound), len(set(bound)), path)

    def test_imports(self):
        for name, node in nodes(ast.ImportFrom):
            self.assertEqual(node.level, 0, name)
            self.assertTrue(node.module.startswith("slowroad."), (name, node.module))
            for alias in node.names:
                self.assertIsNone(alias.asname, name)
                self.assertNotEqual(alias.name, "*", name)
        self.assertEqual([name for name, node in nodes(ast.ImportFrom) if name == "__init__.py"], [])

    def test_functions_and_classes(self):
        for name, node in nodes((ast.FunctionDef, ast.ClassDef)):
            self.assertEqual(node.decorator_list, [], (name, node.name))
            if isinstance(node, ast.FunctionDef) and node.name not in DUNDERS:
                self.assertFalse(node.name.startswith("_"), (name, node.name))
        for name, node in nodes(ast.arguments):
            self.assertFalse(node.vararg or node.kwarg or node.kwonlyargs or node.posonlyargs, name)
        for name, node in nodes(ast.ClassDef):
            self.assertLessEqual(len(node.bases), 1, (name, node.name))
            for inner in node.body:
                self.assertIsInstance(inner, (ast.FunctionDef, ast.Pass), (name, node.name))

    def test_names(self):
        for name, node in nodes(ast.Name):
            self.assertFalse(node.id.startswith("_"), (name, node.id))
            if hasattr(builtins, node.id):
                self.assertIn(node.id, OWN_NAMES, (name, node.lineno))
                self.assertIsInstance(node.ctx, ast.Load, (name, node.lineno))
            self.assertNotIn(node.id, UNUSED, (name, node.lineno))
        for name, node in nodes(ast.Attribute):
            self.assertNotIn(node.attr, UNUSED, (name, node.lineno))
        for name, node in nodes(ast.arg):
            self.assertFalse(hasattr(builtins, node.arg) or node.arg.startswith("_"), (name, node.arg))

    def test_methods(self):
        own = {node.name for name, node in nodes(ast.FunctionDef)}
        for name, node in nodes(ast.Call):
            if isinstance(node.func, ast.Attribute):
                self.assertIn(node.func.attr, METHODS | own, (name, node.lineno))

    def test_no_name_is_a_method_here_and_a_value_there(self):
        methods = {
            inner.name for name, node in nodes(ast.ClassDef) for inner in node.body if isinstance(inner, ast.FunctionDef)
        }
        stored = {node.attr for name, node in nodes(ast.Attribute) if isinstance(node.ctx, ast.Store)}
        self.assertEqual(methods & stored, set())


if __name__ == "__main__":
    unittest.main()
