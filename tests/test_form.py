"""The form of the package's files: of the rules of LANGUAGE.md those that are easily seen."""

import ast
import builtins
import pathlib
import re
import unittest

PACKAGE = pathlib.Path(__file__).resolve().parent.parent / "lotledger"
FILES = sorted(path for path in PACKAGE.rglob("*") if path.is_file() and "__pycache__" not in path.parts)

PYTHONS_OWN = {name for name in dir(builtins) if not name.startswith("_")}
PYTHONS_NAMES = set(
    "len range enumerate zip min max sum abs sorted reversed int str bool list tuple dict set frozenset isinstance"
    " ord repr any all divmod Exception ValueError TypeError KeyError IndexError LookupError ZeroDivisionError"
    " ArithmeticError OverflowError RuntimeError NotImplementedError AttributeError StopIteration".split()
)
PYTHONS_METHODS = set(
    "append clear copy count endswith extend find get index insert isalnum isalpha isdigit islower isspace isupper"
    " items join keys ljust lower lstrip partition pop remove replace reverse rfind rjust rpartition rsplit rstrip"
    " setdefault split splitlines startswith strip update upper values zfill bit_length".split()
)
FREE_FIELDS = set("count index title find get join lower upper split strip copy add".split())
OWN_METHODS_WITH_UNDERSCORES = {"__init__", "__eq__", "__repr__", "__str__", "__len__"}
NEVER_WORDS = set(
    "type typing typing_extensions enum Enum IntEnum StrEnum Flag IntFlag Generic Protocol ABC ABCMeta namedtuple"
    " NamedTuple TypedDict TYPE_CHECKING abstractmethod".split()
)
NEVER_WITHIN_WORDS = ("dataclass", "overload", "contextmanager")
NEVER_NAMES = set("register mro elements open input version_info with_traceback add_note format format_map".split())
ALLOWED_NODES = (
    ast.Module, ast.ImportFrom, ast.alias, ast.FunctionDef, ast.ClassDef, ast.arguments, ast.arg, ast.Lambda,
    ast.Assign, ast.AugAssign, ast.If, ast.While, ast.For, ast.Return, ast.Break, ast.Continue, ast.Pass, ast.Raise,
    ast.Try, ast.ExceptHandler, ast.Expr, ast.Constant, ast.List, ast.Tuple, ast.Dict, ast.Set, ast.BinOp,
    ast.UnaryOp, ast.BoolOp, ast.Compare, ast.IfExp, ast.Call, ast.keyword, ast.Attribute, ast.Subscript, ast.Slice,
    ast.ListComp, ast.comprehension, ast.JoinedStr, ast.FormattedValue, ast.Name, ast.expr_context, ast.operator,
    ast.unaryop, ast.boolop, ast.cmpop,
)


def trees():
    return [(path, ast.parse(path.read_text(encoding="utf-8"))) for path in FILES]


def nodes(kinds):
    for path, tree in trees():
        for node in ast.walk(tree):
            if isinstance(node, kinds):
                yield f"{path.name}:{getattr(node, 'lineno', 0)}", node


def bound_names():
    """Every name that a file binds: defs, classes, parameters, values and fields."""
    for place, node in nodes((ast.FunctionDef, ast.ClassDef, ast.arg, ast.Name, ast.Attribute, ast.ExceptHandler)):
        if isinstance(node, (ast.FunctionDef, ast.ClassDef)) or isinstance(node, ast.ExceptHandler) and node.name:
            yield place, node.name
        if isinstance(node, ast.arg):
            yield place, node.arg
        if isinstance(node, ast.Name) and isinstance(node.ctx, ast.Store):
            yield place, node.id
        if isinstance(node, ast.Attribute) and isinstance(node.ctx, ast.Store):
            yield place, node.attr


def methods():
    return {node.name for _, kind in nodes(ast.ClassDef) for node in kind.body if isinstance(node, ast.FunctionDef)}


def fields():
    return {node.attr for _, node in nodes(ast.Attribute) if isinstance(node.ctx, ast.Store)}


class Files(unittest.TestCase):
    def test_the_package_is_there(self):
        self.assertIn(PACKAGE / "__init__.py", FILES)

    def test_names_of_files(self):
        for path in FILES:
            self.assertRegex(path.name, r"\A(__init__|__main__|[a-z][a-z0-9_]*)\.py\Z")
            self.assertNotIn(path.stem, PYTHONS_OWN, path)

    def test_signs_and_sizes(self):
        for path in FILES:
            text = path.read_text(encoding="utf-8")
            self.assertRegex(text, r"\A[ -~\n]*\Z", path)
            rows = text.split("\n")
            self.assertLessEqual(len(rows), 400, path)
            self.assertLessEqual(max(len(row) for row in rows), 120, path)

    def test_words_that_stand_nowhere(self):
        for path in FILES:
            text = path.read_text(encoding="utf-8")
            self.assertEqual(set(re.findall(r"\w+", text)) & NEVER_WORDS, set(), path)
            for word in NEVER_WITHIN_WORDS:
                self.assertNotIn(word, text, path)


class Code(unittest.TestCase):
    def test_only_the_allowed_forms(self):
        for place, node in nodes(ast.AST):
            self.assertIsInstance(node, ALLOWED_NODES, place)
            self.assertNotIsInstance(node, (ast.Div, ast.MatMult), place)

    def test_narrower_forms(self):
        for place, node in nodes((ast.Assign, ast.For, ast.While, ast.ListComp, ast.Constant, ast.Compare)):
            if isinstance(node, ast.Assign):
                self.assertEqual(len(node.targets), 1, place)
            if isinstance(node, (ast.For, ast.While)):
                self.assertEqual(node.orelse, [], place)
            if isinstance(node, ast.ListComp):
                self.assertEqual(len(node.generators), 1, place)
                self.assertLessEqual(len(node.generators[0].ifs), 1, place)
            if isinstance(node, ast.Constant):
                self.assertIsInstance(node.value, (int, str, bool, type(None)), place)
                self.assertFalse(isinstance(node.value, str) and "%" in node.value, place)
            if isinstance(node, ast.Compare):
                for sign, value in zip(node.ops, node.comparators):
                    if isinstance(sign, (ast.Is, ast.IsNot)):
                        self.assertIn(getattr(value, "value", "none of them"), (None, True, False), place)

    def test_texts_with_values_hold_plain_names(self):
        for place, node in nodes(ast.FormattedValue):
            self.assertIsInstance(node.value, ast.Name, place)
            self.assertIsNone(node.format_spec, place)

    def test_imports(self):
        for place, node in nodes(ast.ImportFrom):
            self.assertEqual(node.level, 0, place)
            self.assertRegex(node.module, r"\Alotledger\.\w+\Z", place)
            self.assertFalse([name for name in node.names if name.name == "*"], place)

    def test_functions(self):
        for place, node in nodes(ast.FunctionDef):
            self.assertLessEqual(node.end_lineno - node.lineno + 1, 40, place)
            self.assertEqual(node.decorator_list, [], place)
            self.assertFalse(node.args.vararg or node.args.kwarg or node.args.kwonlyargs, place)

    def test_classes(self):
        for place, node in nodes(ast.ClassDef):
            self.assertLessEqual(len(node.bases), 1, place)
            self.assertEqual(node.decorator_list + node.keywords, [], place)
            for part in node.body:
                is_docstring = isinstance(part, ast.Expr) and isinstance(part.value, ast.Constant)
                self.assertTrue(is_docstring or isinstance(part, ast.FunctionDef), place)

    def test_the_top_of_a_file(self):
        for path, tree in trees():
            bound = [node.name for node in tree.body if isinstance(node, (ast.FunctionDef, ast.ClassDef))]
            for node in tree.body:
                self.assertIsInstance(
                    node, (ast.Expr, ast.ImportFrom, ast.FunctionDef, ast.ClassDef, ast.Assign), path
                )
                if isinstance(node, ast.Assign):
                    self.assertIsInstance(node.value, (ast.Constant, ast.List, ast.Tuple, ast.Dict), path)
                    bound.append(node.targets[0].id)
            self.assertEqual(len(bound), len(set(bound)), path)


class Names(unittest.TestCase):
    def test_bound_names(self):
        for place, name in bound_names():
            if name not in OWN_METHODS_WITH_UNDERSCORES:
                self.assertRegex(name, r"\A[A-Za-z]\w*\Z", place)
                self.assertNotIn(name, NEVER_NAMES, place)

    def test_no_parameter_or_value_is_called_like_one_of_pythons_own(self):
        for place, node in nodes((ast.arg, ast.Name)):
            name = node.arg if isinstance(node, ast.arg) else node.id
            if isinstance(node, ast.arg) or isinstance(node.ctx, ast.Store):
                self.assertNotIn(name, PYTHONS_OWN, place)

    def test_of_pythons_own_names_only_the_allowed_ones(self):
        for place, node in nodes(ast.Name):
            if node.id in PYTHONS_OWN:
                self.assertIn(node.id, PYTHONS_NAMES, place)

    def test_methods_that_are_called(self):
        known = methods() | PYTHONS_METHODS | OWN_METHODS_WITH_UNDERSCORES
        for place, node in nodes(ast.Call):
            if isinstance(node.func, ast.Attribute):
                self.assertIn(node.func.attr, known, place)

    def test_no_name_is_a_method_and_a_value(self):
        self.assertEqual(methods() & fields(), set())

    def test_fields_are_not_called_like_methods_of_pythons_own(self):
        for kind in (str, int, list, dict, set, bytes, tuple):
            self.assertEqual({name for name in fields() - FREE_FIELDS if hasattr(kind, name)}, set())


if __name__ == "__main__":
    unittest.main()
