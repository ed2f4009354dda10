"""The form of the package's files: of the rules of LANGUAGE.md those that are easily seen."""

import ast
import builtins
import pathlib
import re
import unittest

PACKAGE = pathlib.Path(__file__).resolve().parent.parent / "lotledger"
FILES = sorted(path for path in PACKAGE.rglob("*") if path.is_file() and "__pycache__" not in path.parts)

PYTHONS_OWN = {name for name in dir(builtins) if not name.startswith("_")}
PYTHONS_NAMES = set(
    "len range enumerate zip min max sum abs sorted reversed int str bool list tuple dict set frozenset isinstance"
    " ord repr any all divmod Exception ValueError TypeError KeyError IndexError LookupError ZeroDivisionError"
    " ArithmeticError OverflowError RuntimeError NotImplementedError AttributeError StopIteration".split()
)
PYTHONS_METHODS = set(
    "append clear copy count endswith extend find get index insert isalnum isalpha isdigit islower isspace isupper"
    " items join keys ljust lower lstrip partition pop remove replace reverse rfind rjust rpartition rsplit rstrip"
    " setdefault split splitlines startswith strip update upper values zfill bit_length".split()
)
FREE_FIELDS = set("count index title find get join lower upper split strip copy add".split())
OWN_METHODS_WITH_UNDERSCORES = {"__init__", "__eq__", "__repr__", "__str__", "__len__"}
NEVER_WORDS = set(
    "type typing typing_extensions enum Enum IntEnum StrEnum Flag IntFlag Generic Protocol ABC ABCMeta namedtuple"
    " NamedTuple TypedDict TYPE_CHECKING abstractmethod".split()
)
NEVER_WITHIN_WORDS = ("dataclass", "overload", "contextmanager")
NEVER_NAMES = set("register mro elements open input version_info with_traceback add_note format format_map".split())
WALKED_AT_ONCE = set("zip enumerate reversed range items keys values".split())
WALKERS = set("list tuple dict sorted sum any all enumerate zip min max join".split())
KEYWORDS = {
    "sorted": {"key", "reverse"}, "min": {"key", "default"}, "max": {"key", "default"}, "sum": {"start"},
    "enumerate": {"start"}, "zip": {"strict"},
}
ALLOWED_NODES = (
    ast.Module, ast.ImportFrom, ast.alias, ast.FunctionDef, ast.ClassDef, ast.arguments, ast.arg, ast.Lambda,
    ast.Assign, ast.AugAssign, ast.If, ast.While, ast.For, ast.Return, ast.Break, ast.Continue, ast.Pass, ast.Raise,
    ast.Try, ast.ExceptHandler, ast.Expr, ast.Constant, ast.List, ast.Tuple, ast.Dict, ast.Set, ast.BinOp,
    ast.UnaryOp, ast.BoolOp, ast.Compare, ast.IfExp, ast.Call, ast.keyword, ast.Attribute, ast.Subscript, ast.Slice,
    ast.ListComp, ast.comprehension, ast.JoinedStr, ast.FormattedValue, ast.Name, ast.expr_context, ast.operator,
    ast.unaryop, ast.boolop, ast.cmpop,
)


def trees():
    return [(path, ast.parse(path.read_text(encoding="utf-8"))) for path in FILES]


def nodes(kinds):
    for path, tree in trees():
        for node in ast.walk(tree):
            if isinstance(node, kinds):
                yield f"{path.name}:{getattr(node, 'lineno', 0)}", node


def bound_names():
    """Every name that a file binds: defs, classes, parameters, values and fields."""
    for place, node in nodes((ast.FunctionDef, ast.ClassDef, ast.arg, ast.Name, ast.Attribute, ast.ExceptHandler)):
        if isinstance(node, (ast.FunctionDef, ast.ClassDef)) or isinstance(node, ast.ExceptHandler) and node.name:
            yield place, node.name
        if isinstance(node, ast.arg):
            yield place, node.arg
        if isinstance(node, ast.Name) and isinstance(node.ctx, ast.Store):
            yield place, node.id
        if isinstance(node, ast.Attribute) and isinstance(node.ctx, ast.Store):
            yield place, node.attr


def methods():
    return {node.name for _, kind in nodes(ast.ClassDef) for node in kind.body if isinstance(node, ast.FunctionDef)}


def fields():
    return {node.attr for _, node in nodes(ast.Attribute) if isinstance(node.ctx, ast.Store)}


def names_at_the_top(tree):
    return {node.name for node in tree.body if isinstance(node, (ast.FunctionDef, ast.ClassDef))}


def imported_names(tree):
    return {name.name for node in tree.body if isinstance(node, ast.ImportFrom) for name in node.names}


def drawn_from(tree):
    return {node.module.rpartition(".")[2] for node in tree.body if isinstance(node, ast.ImportFrom)}


def names_given(tree):
    """The parameters and the locals of a file's functions."""
    for function in ast.walk(tree):
        if isinstance(function, (ast.FunctionDef, ast.Lambda)):
            for node in ast.walk(function):
                if isinstance(node, ast.arg):
                    yield node.arg
                if isinstance(node, ast.Name) and isinstance(node.ctx, ast.Store):
                    yield node.id


def places_of_classes(node):
    if isinstance(node, ast.Call):
        yield node.func
        # Base.__init__(self, ..) calls a base's by its class.
        if isinstance(node.func, ast.Attribute) and node.func.attr == "__init__":
            yield node.func.value
        if called_name(node) == "isinstance":
            yield from node.args[1].elts if isinstance(node.args[1], ast.Tuple) else [node.args[1]]
    if isinstance(node, ast.ClassDef):
        yield from node.bases
    if isinstance(node, ast.ExceptHandler):
        yield from node.type.elts if isinstance(node.type, ast.Tuple) else [node.type]


def places_of_walks(node):
    if isinstance(node, (ast.For, ast.comprehension)):
        yield node.iter
    if isinstance(node, ast.Call) and called_name(node) in WALKERS:
        yield from node.args[:1]


def kept_at_the_top(tree):
    """The lists and dicts of a file's top."""
    kept = [node for node in tree.body if isinstance(node, ast.Assign) and isinstance(node.value, (ast.List, ast.Dict))]
    return {node.targets[0].id for node in kept}


def places_of_reading(node):
    if isinstance(node, ast.Subscript) and isinstance(node.ctx, ast.Load):
        yield node.value
    if isinstance(node, ast.Compare):
        yield from node.comparators
    if isinstance(node, (ast.For, ast.comprehension)):
        yield node.iter
    if isinstance(node, ast.Call) and called_name(node) in ("len", "list", "dict", "sorted"):
        yield from node.args[:1]
    if isinstance(node, ast.Call) and called_name(node) == "get":
        yield node.func.value


def called_name(call):
    return call.func.attr if isinstance(call.func, ast.Attribute) else getattr(call.func, "id", "")


class Files(unittest.TestCase):
    def test_the_package_is_there(self):
        self.assertIn(PACKAGE / "__init__.py", FILES)

    def test_names_of_files(self):
        for path in FILES:
            self.assertRegex(path.name, r"\A(__init__|__main__|[a-z][a-z0-9_]*)\.py\Z")
            self.assertNotIn(path.stem, PYTHONS_OWN, path)

    def test_signs_and_sizes(self):
        for path in FILES:
            text = path.read_text(encoding="utf-8")
            self.assertRegex(text, r"\A[ -~\n]*\Z", path)
            rows = text.split("\n")
            self.assertLessEqual(len(rows), 400, path)
            self.assertLessEqual(max(len(row) for row in rows), 120, path)

    def test_words_that_stand_nowhere(self):
        for path in FILES:
            text = path.read_text(encoding="utf-8")
            self.assertEqual(set(re.findall(r"\w+", text)) & NEVER_WORDS, set(), path)
            for word in NEVER_WITHIN_WORDS:
                self.assertNotIn(word, text, path)


class Code(unittest.TestCase):
    def test_only_the_allowed_forms(self):
        for place, node in nodes(ast.AST):
            self.assertIsInstance(node, ALLOWED_NODES, place)
            self.assertNotIsInstance(node, (ast.Div, ast.MatMult), place)

    def test_narrower_forms(self):
        for place, node in nodes((ast.Assign, ast.For, ast.While, ast.ListComp, ast.Constant, ast.Compare)):
            if isinstance(node, ast.Assign):
                self.assertEqual(len(node.targets), 1, place)
            if isinstance(node, (ast.For, ast.While)):
                self.assertEqual(node.orelse, [], place)
            if isinstance(node, ast.ListComp):
                self.assertEqual(len(node.generators), 1, place)
                self.assertLessEqual(len(node.generators[0].ifs), 1, place)
            if isinstance(node, ast.Constant):
                self.assertIsInstance(node.value, (int, str, bool, type(None)), place)
                self.assertFalse(isinstance(node.value, str) and "%" in node.value, place)
            if isinstance(node, ast.Compare):
                for sign, value in zip(node.ops, node.comparators):
                    if isinstance(sign, (ast.Is, ast.IsNot)):
                        self.assertIn(getattr(value, "value", "none of them"), (None, True, False), place)

    def test_texts_with_values_hold_plain_names(self):
        for place, node in nodes(ast.FormattedValue):
            self.assertIsInstance(node.value, ast.Name, place)
            self.assertIsNone(node.format_spec, place)

    def test_imports(self):
        for place, node in nodes(ast.ImportFrom):
            self.assertEqual(node.level, 0, place)
            self.assertRegex(node.module, r"\Alotledger\.\w+\Z", place)
            self.assertFalse([name for name in node.names if name.name == "*"], place)

    def test_imports_are_from_the_file_that_defines_the_name(self):
        defined = {f"lotledger.{path.stem}": names_at_the_top(tree) for path, tree in trees()}
        for place, node in nodes(ast.ImportFrom):
            self.assertLessEqual({name.name for name in node.names}, defined[node.module], place)
            self.assertEqual([name.asname for name in node.names if name.asname], [], place)

    def test_no_two_files_draw_from_one_another(self):
        drawn = {path.stem: drawn_from(tree) for path, tree in trees()}
        while drawn:
            free = [name for name in drawn if not drawn[name] & set(drawn)]
            self.assertTrue(free, drawn)
            drawn = {name: drawn[name] for name in drawn if name not in free}

    def test_every_import_is_used(self):
        for path, tree in trees():
            used = {node.id for node in ast.walk(tree) if isinstance(node, ast.Name)}
            self.assertLessEqual(imported_names(tree), used, path)

    def test_functions(self):
        for place, node in nodes(ast.FunctionDef):
            self.assertLessEqual(node.end_lineno - node.lineno + 1, 40, place)
            self.assertEqual(node.decorator_list, [], place)
            self.assertFalse(node.args.vararg or node.args.kwarg or node.args.kwonlyargs, place)

    def test_classes(self):
        for place, node in nodes(ast.ClassDef):
            self.assertLessEqual(len(node.bases), 1, place)
            self.assertEqual(node.decorator_list + node.keywords, [], place)
            for part in node.body:
                is_docstring = isinstance(part, ast.Expr) and isinstance(part.value, ast.Constant)
                self.assertTrue(is_docstring or isinstance(part, ast.FunctionDef), place)

    def test_the_top_of_a_file(self):
        for path, tree in trees():
            bound = [node.name for node in tree.body if isinstance(node, (ast.FunctionDef, ast.ClassDef))]
            for node in tree.body:
                self.assertIsInstance(
                    node, (ast.Expr, ast.ImportFrom, ast.FunctionDef, ast.ClassDef, ast.Assign), path
                )
                if isinstance(node, ast.Assign):
                    self.assertIsInstance(node.value, (ast.Constant, ast.List, ast.Tuple, ast.Dict), path)
                    bound.append(node.targets[0].id)
            self.assertEqual(len(bound), len(set(bound)), path)


class Names(unittest.TestCase):
    def test_bound_names(self):
        for place, name in bound_names():
            if name not in OWN_METHODS_WITH_UNDERSCORES:
                self.assertRegex(name, r"\A[A-Za-z]\w*\Z", place)
                self.assertNotIn(name, NEVER_NAMES, place)

    def test_no_parameter_or_value_is_called_like_one_of_pythons_own(self):
        for place, node in nodes((ast.arg, ast.Name)):
            name = node.arg if isinstance(node, ast.arg) else node.id
            if isinstance(node, ast.arg) or isinstance(node.ctx, ast.Store):
                self.assertNotIn(name, PYTHONS_OWN, place)

    def test_no_parameter_or_local_is_called_like_a_def_a_class_or_an_import_of_its_file(self):
        for path, tree in trees():
            self.assertEqual(set(names_given(tree)) & (names_at_the_top(tree) | imported_names(tree)), set(), path)

    def test_classes_are_called_or_stand_where_classes_may(self):
        classes = {kind.name for _, kind in nodes(ast.ClassDef)}
        for path, tree in trees():
            allowed = {id(name) for node in ast.walk(tree) for name in places_of_classes(node)}
            for node in ast.walk(tree):
                if isinstance(node, ast.Name) and node.id in classes:
                    self.assertIn(id(node), allowed, f"{path.name}:{node.lineno}")

    def test_values_walked_at_once(self):
        for path, tree in trees():
            allowed = {id(value) for node in ast.walk(tree) for value in places_of_walks(node)}
            for node in ast.walk(tree):
                if isinstance(node, ast.Call) and called_name(node) in WALKED_AT_ONCE:
                    self.assertIn(id(node), allowed, f"{path.name}:{node.lineno}")

    def test_lists_and_dicts_of_a_files_top_are_only_read(self):
        for path, tree in trees():
            kept = kept_at_the_top(tree)
            allowed = {id(value) for node in ast.walk(tree) for value in places_of_reading(node)}
            for node in ast.walk(tree):
                if isinstance(node, ast.Name) and node.id in kept and isinstance(node.ctx, ast.Load):
                    self.assertIn(id(node), allowed, f"{path.name}:{node.lineno}")

    def test_errors_are_made_on_the_spot_and_taken_by_their_own_names(self):
        errors = names_at_the_top(ast.parse((PACKAGE / "errors.py").read_text(encoding="utf-8")))
        for place, node in nodes((ast.Raise, ast.ExceptHandler)):
            if isinstance(node, ast.Raise):
                self.assertIsInstance(node.exc, ast.Call, place)
                self.assertIn(called_name(node.exc), errors, place)
            else:
                self.assertIsInstance(node.type, ast.Name, place)
                self.assertIn(node.type.id, errors, place)

    def test_keywords(self):
        for place, node in nodes(ast.Call):
            told = {keyword.arg for keyword in node.keywords}
            self.assertLessEqual(told, KEYWORDS.get(called_name(node), set()), place)

    def test_of_pythons_own_names_only_the_allowed_ones(self):
        for place, node in nodes(ast.Name):
            if node.id in PYTHONS_OWN:
                self.assertIn(node.id, PYTHONS_NAMES, place)

    def test_methods_that_are_called(self):
        known = methods() | PYTHONS_METHODS | OWN_METHODS_WITH_UNDERSCORES
        for place, node in nodes(ast.Call):
            if isinstance(node.func, ast.Attribute):
                self.assertIn(node.func.attr, known, place)

    def test_no_name_is_a_method_and_a_value(self):
        self.assertEqual(methods() & fields(), set())

    def test_fields_are_not_called_like_methods_of_pythons_own(self):
        for kind in (str, int, list, dict, set, bytes, tuple):
            self.assertEqual({name for name in fields() - FREE_FIELDS if hasattr(kind, name)}, set())


if __name__ == "__main__":
    unittest.main()
