"""Holds the package to the part of Python that it keeps to, as far as a walk over the code can see it."""

import ast
import builtins
import pathlib
import re
import tokenize
import unittest

PACKAGE = pathlib.Path(__file__).resolve().parent.parent / "slowroad"

STATEMENTS = (
    ast.Assign, ast.AugAssign, ast.If, ast.While, ast.For, ast.Return, ast.Break, ast.Continue, ast.Pass, ast.Raise,
    ast.Try, ast.Expr, ast.FunctionDef, ast.ClassDef, ast.ImportFrom,
)
EXPRESSIONS = (
    ast.Constant, ast.List, ast.Tuple, ast.Dict, ast.Set, ast.BinOp, ast.UnaryOp, ast.BoolOp, ast.Compare, ast.IfExp,
    ast.Call, ast.Attribute, ast.Subscript, ast.Slice, ast.ListComp, ast.JoinedStr, ast.FormattedValue, ast.Lambda,
    ast.Name,
)
OWN_NAMES = set(
    "len range enumerate zip min max sum abs sorted reversed int str bool list tuple dict set frozenset isinstance ord "
    "repr any all divmod Exception ValueError KeyError IndexError LookupError ZeroDivisionError ArithmeticError "
    "OverflowError RuntimeError NotImplementedError StopIteration".split()
)
METHODS = set(
    "append clear copy count endswith extend find get index insert isalnum isalpha isdigit islower isspace isupper "
    "items join keys ljust lower lstrip partition pop remove replace reverse rfind rjust rpartition rsplit rstrip "
    "setdefault split splitlines startswith strip update upper values zfill bit_length".split()
)
FREE_VALUES = {"count", "index", "title", "find", "get", "join", "lower", "upper", "split", "strip", "copy", "add"}
DUNDERS = ("__init__", "__eq__", "__repr__", "__str__", "__len__")
UNUSED = set("register mro elements open input version_info with_traceback add_note format format_map args".split())
WORDS = re.compile(
    r"\b(type|typing|typing_extensions|enum|Enum|IntEnum|StrEnum|Flag|IntFlag|Generic|Protocol|ABC|ABCMeta|namedtuple"
    r"|NamedTuple|TypedDict|TYPE_CHECKING|abstractmethod)\b"
    r"|dataclass|overload|contextmanager"
)


def files():
    return sorted(path for path in PACKAGE.rglob("*") if "__pycache__" not in path.parts and path.is_file())


def trees():
    return [(path, ast.parse(path.read_text("utf-8"))) for path in files()]


def nodes(kind):
    return [(path.name, node) for path, tree in trees() for node in ast.walk(tree) if isinstance(node, kind)]


def called(node):
    return node.func.attr if isinstance(node.func, ast.Attribute) else getattr(node.func, "id", None)


def own_methods():
    return {
        inner.name for name, node in nodes(ast.ClassDef) for inner in node.body if isinstance(inner, ast.FunctionDef)
    }


def own_values():
    return {node.attr for name, node in nodes(ast.Attribute) if isinstance(node.ctx, ast.Store)}


class Form(unittest.TestCase):
    def test_files(self):
        self.assertIn(PACKAGE / "__init__.py", files())
        for path in files():
            self.assertRegex(path.name, r"^[a-z0-9_]+\.py$")
            self.assertFalse(path.stem != "__init__" and hasattr(builtins, path.stem), path)

    def test_signs_and_sizes(self):
        for path in files():
            text = path.read_bytes().decode("ascii")
            self.assertTrue(all(sign == "\n" or " " <= sign <= "~" for sign in text), path)
            self.assertLessEqual(len(text.split("\n")), 400, path)
            self.assertLessEqual(max(len(line) for line in text.split("\n")), 120, path)
        for name, node in nodes(ast.FunctionDef):
            self.assertLessEqual(node.end_lineno - node.lineno + 1, 40, (name, node.name))

    def test_words_that_stand_nowhere(self):
        for path in files():
            self.assertIsNone(WORDS.search(path.read_text("utf-8")), path)

    def test_statements_and_expressions(self):
        for name, node in nodes(ast.stmt):
            self.assertIsInstance(node, STATEMENTS, (name, node.lineno))
        for name, node in nodes(ast.expr):
            self.assertIsInstance(node, EXPRESSIONS, (name, node.lineno))
        for name, node in nodes((ast.For, ast.While)):
            self.assertEqual(node.orelse, [], (name, node.lineno))
        for name, node in nodes(ast.Assign):
            self.assertEqual(len(node.targets), 1, (name, node.lineno))
        for name, node in nodes(ast.ListComp):
            self.assertEqual(len(node.generators), 1, (name, node.lineno))
            self.assertLessEqual(len(node.generators[0].ifs), 1, (name, node.lineno))
        for name, node in nodes(ast.BinOp):
            self.assertNotIsInstance(node.op, (ast.Div, ast.MatMult), (name, node.lineno))

    def test_values(self):
        for name, node in nodes(ast.Constant):
            self.assertIn(type(node.value), (int, str, bool, type(None)), (name, node.lineno))
            if isinstance(node.value, str):
                self.assertNotIn(chr(37), node.value, (name, node.lineno))

    def test_escapes(self):
        for path in files():
            with open(path, "rb") as stream:
                for token in tokenize.tokenize(stream.readline):
                    if token.type == tokenize.STRING:
                        rest = re.sub(r"\\[nt\\'\"]", "", token.string)
                        self.assertNotIn("\\", rest, (path, token.start))

    def test_top_of_a_file(self):
        for path, tree in trees():
            bound = []
            for at, node in enumerate(tree.body):
                self.assertNotIsInstance(node, (ast.If, ast.For, ast.While, ast.Try), (path, node.lineno))
                if isinstance(node, ast.Expr):
                    self.assertEqual(at, 0, (path, node.lineno))
                if isinstance(node, (ast.FunctionDef, ast.ClassDef)):
                    bound.append(node.name)
                if isinstance(node, ast.Assign):
                    bound.append(node.targets[0].id)
                if isinstance(node, ast.ImportFrom):
                    bound.extend(alias.name for alias in node.names)
            self.assertEqual(len(bound), len(set(bound)), path)

    def test_imports(self):
        for name, node in nodes(ast.ImportFrom):
            self.assertEqual(node.level, 0, name)
            self.assertTrue(node.module.startswith("slowroad."), (name, node.module))
            for alias in node.names:
                self.assertIsNone(alias.asname, name)
                self.assertNotEqual(alias.name, "*", name)
        self.assertEqual([name for name, node in nodes(ast.ImportFrom) if name == "__init__.py"], [])

    def test_functions_and_classes(self):
        for name, node in nodes((ast.FunctionDef, ast.ClassDef)):
            self.assertEqual(node.decorator_list, [], (name, node.name))
            if isinstance(node, ast.FunctionDef) and node.name not in DUNDERS:
                self.assertFalse(node.name.startswith("_"), (name, node.name))
        for name, node in nodes(ast.arguments):
            self.assertFalse(node.vararg or node.kwarg or node.kwonlyargs or node.posonlyargs, name)
        for name, node in nodes(ast.ClassDef):
            self.assertLessEqual(len(node.bases), 1, (name, node.name))
            for inner in node.body:
                self.assertIsInstance(inner, (ast.FunctionDef, ast.Pass), (name, node.name))

    def test_names(self):
        for name, node in nodes(ast.Name):
            self.assertFalse(node.id.startswith("_"), (name, node.id))
            if hasattr(builtins, node.id):
                self.assertIn(node.id, OWN_NAMES, (name, node.lineno))
                self.assertIsInstance(node.ctx, ast.Load, (name, node.lineno))
            self.assertNotIn(node.id, UNUSED, (name, node.lineno))
        for name, node in nodes(ast.Attribute):
            self.assertNotIn(node.attr, UNUSED, (name, node.lineno))
        for name, node in nodes(ast.arg):
            self.assertFalse(hasattr(builtins, node.arg) or node.arg.startswith("_"), (name, node.arg))

    def test_methods(self):
        own = {node.name for name, node in nodes(ast.FunctionDef)}
        for name, node in nodes(ast.Call):
            if isinstance(node.func, ast.Attribute):
                self.assertIn(node.func.attr, METHODS | own, (name, node.lineno))

    def test_no_name_is_a_method_here_and_a_value_there(self):
        self.assertEqual(own_methods() & own_values(), set())

    def test_own_methods_and_values_bear_free_names(self):
        taken = {name for kind in (str, int, list, dict, set, bytes, tuple) for name in dir(kind)}
        self.assertEqual((own_methods() - set(DUNDERS)) & taken - METHODS - {"add", "discard"}, set())
        self.assertEqual(own_values() & taken - FREE_VALUES, set())

    def test_a_class_has_no_method_twice(self):
        for name, node in nodes(ast.ClassDef):
            methods = [inner.name for inner in node.body if isinstance(inner, ast.FunctionDef)]
            self.assertEqual(len(methods), len(set(methods)), (name, node.name))

    def test_classes_are_called_or_named_and_not_handed_on(self):
        classes = {node.name for name, node in nodes(ast.ClassDef)}
        for path, tree in trees():
            named = []
            for node in ast.walk(tree):
                if isinstance(node, ast.Call):
                    named.append(node.func)
                    if isinstance(node.func, ast.Name) and node.func.id == "isinstance":
                        named.extend(ast.walk(node.args[1]))
                if isinstance(node, ast.ClassDef):
                    named.extend(node.bases)
                if isinstance(node, ast.ExceptHandler):
                    named.extend(ast.walk(node.type))
                if isinstance(node, ast.Attribute) and node.attr == "__init__":
                    named.append(node.value)
            for node in ast.walk(tree):
                if isinstance(node, ast.Name) and node.id in classes:
                    self.assertIn(node, named, (path.name, node.lineno))

    def test_locals_are_not_called_like_classes_or_imports(self):
        for path, tree in trees():
            above = {node.name for node in tree.body if isinstance(node, (ast.ClassDef, ast.FunctionDef))}
            above |= {alias.name for node in tree.body if isinstance(node, ast.ImportFrom) for alias in node.names}
            for node in ast.walk(tree):
                if isinstance(node, ast.arg):
                    self.assertNotIn(node.arg, above, (path.name, node.lineno))
                if isinstance(node, ast.Name) and isinstance(node.ctx, ast.Store):
                    self.assertNotIn(node.id, above, (path.name, node.lineno))

    def test_imports_come_from_the_file_that_defines_and_go_one_way(self):
        defined, drawn = {}, {}
        for path, tree in trees():
            defined["slowroad." + path.stem] = {
                node.targets[0].id if isinstance(node, ast.Assign) else node.name
                for node in tree.body if isinstance(node, (ast.ClassDef, ast.FunctionDef, ast.Assign))
            }
            drawn["slowroad." + path.stem] = [n.module for n in ast.walk(tree) if isinstance(n, ast.ImportFrom)]
        for name, node in nodes(ast.ImportFrom):
            for alias in node.names:
                self.assertIn(alias.name, defined[node.module], (name, node.lineno))
        while drawn:
            free = [module for module in drawn if not any(other in drawn for other in drawn[module])]
            self.assertNotEqual(free, [], "files that draw from one another")
            for module in free:
                drawn.pop(module)

    def test_every_import_is_used(self):
        for path, tree in trees():
            used = {node.id for node in ast.walk(tree) if isinstance(node, ast.Name)}
            for node in tree.body:
                if isinstance(node, ast.ImportFrom):
                    self.assertEqual({alias.name for alias in node.names} - used, set(), path.name)

    def test_errors_are_taken_by_name(self):
        own = {node.name for name, node in nodes(ast.ClassDef) if name == "errors.py"} - {"RoadError"}
        for name, node in nodes(ast.ExceptHandler):
            self.assertIsNotNone(node.type, (name, node.lineno))
            for kind in node.type.elts if isinstance(node.type, ast.Tuple) else [node.type]:
                self.assertIn(kind.id, own | {"KeyError", "ZeroDivisionError"}, (name, node.lineno))
        for name, node in nodes(ast.Raise):
            self.assertIsInstance(node.exc, ast.Call, (name, node.lineno))

    def test_is_stands_beside_none_and_truths_alone(self):
        for name, node in nodes(ast.Compare):
            for op, right in zip(node.ops, node.comparators):
                if isinstance(op, (ast.Is, ast.IsNot)):
                    self.assertIsInstance(right, ast.Constant, (name, node.lineno))
                    self.assertIn(right.value, (None, True, False), (name, node.lineno))

    def test_no_annotations_sets_and_powers(self):
        for name, node in nodes(ast.arg):
            self.assertIsNone(node.annotation, (name, node.lineno))
        for name, node in nodes(ast.FunctionDef):
            self.assertIsNone(node.returns, (name, node.lineno))
        self.assertEqual(nodes((ast.Set, ast.AnnAssign)), [])
        for name, node in nodes(ast.Name):
            self.assertNotIn(node.id, ("set", "frozenset"), (name, node.lineno))
        for name, node in nodes(ast.Pow):
            self.fail((name, "a power"))

    def test_keywords(self):
        for name, node in nodes(ast.keyword):
            self.assertIn(node.arg, ("key", "reverse", "default", "start", "strict"), (name, node.value.lineno))

    def test_what_is_walked_is_walked_on_the_spot(self):
        lazy = ("zip", "enumerate", "reversed", "range", "items", "keys", "values")
        takers = ("list", "tuple", "dict", "sorted", "sum", "any", "all", "enumerate", "zip", "min", "max", "join")
        for path, tree in trees():
            walked = []
            for node in ast.walk(tree):
                if isinstance(node, (ast.For, ast.comprehension)):
                    walked.append(node.iter)
                if isinstance(node, ast.Call) and called(node) in takers:
                    walked.extend(node.args)
            for node in ast.walk(tree):
                if isinstance(node, ast.Call) and called(node) in lazy:
                    self.assertIn(node, walked, (path.name, node.lineno))

    def test_f_strings_hold_plain_names(self):
        for name, node in nodes(ast.FormattedValue):
            self.assertIsInstance(node.value, ast.Name, (name, node.lineno))
            self.assertIsNone(node.format_spec, (name, node.lineno))

    def test_init_gives_nothing_back(self):
        for name, node in nodes(ast.FunctionDef):
            if node.name == "__init__":
                self.assertEqual([n for n in ast.walk(node) if isinstance(n, ast.Return)], [], name)

    def test_lists_and_dicts_of_a_files_top(self):
        for path, tree in trees():
            for node in tree.body:
                if isinstance(node, ast.Assign):
                    self.assertFalse([n for n in ast.walk(node.value) if isinstance(n, (ast.List, ast.Dict))], path)


if __name__ == "__main__":
    unittest.main()
