"""The rules of LANGUAGE.md that can be seen in the package's files; the others are the writer's care."""

import ast
import builtins
import pathlib
import re
import unittest

PACKAGE = pathlib.Path(__file__).resolve().parent.parent / "unsaybook"

NODES = (
    ast.Module, ast.ImportFrom, ast.alias, ast.FunctionDef, ast.ClassDef, ast.arguments, ast.arg, ast.Lambda,
    ast.Assign, ast.AugAssign, ast.If, ast.While, ast.For, ast.Return, ast.Break, ast.Continue, ast.Pass, ast.Raise,
    ast.Try, ast.ExceptHandler, ast.Expr, ast.Constant, ast.List, ast.Tuple, ast.Dict, ast.BinOp, ast.UnaryOp,
    ast.BoolOp, ast.Compare, ast.IfExp, ast.Call, ast.keyword, ast.Attribute, ast.Subscript, ast.Slice, ast.Name,
    ast.ListComp, ast.comprehension, ast.JoinedStr, ast.FormattedValue,
    ast.expr_context, ast.boolop, ast.operator, ast.unaryop, ast.cmpop,
)
OWN_NAMES = set(
    "len range enumerate zip min max sum abs sorted reversed int str bool list tuple dict set frozenset isinstance ord "
    "repr any all divmod Exception ValueError TypeError KeyError IndexError LookupError ZeroDivisionError "
    "ArithmeticError OverflowError RuntimeError NotImplementedError AttributeError StopIteration".split()
)
METHODS = set(
    "append clear copy count endswith extend find get index insert isalnum isalpha isdigit islower isspace isupper "
    "items join keys ljust lower lstrip partition pop remove replace reverse rfind rjust rpartition rsplit rstrip "
    "setdefault split splitlines startswith strip update upper values zfill bit_length".split()
)
UNDERSCORED = {"__init__", "__eq__", "__repr__", "__str__", "__len__"}
WORDS = re.compile(
    r"\b(type|typing|typing_extensions|enum|Enum|IntEnum|StrEnum|Flag|IntFlag|Generic|Protocol|ABC|ABCMeta|namedtuple"
    r"|NamedTuple|TypedDict|TYPE_CHECKING|abstractmethod)\b|dataclass|overload|contextmanager"
)
# What is walked where it stands, and what may stand around it there.
WALKED = set("zip enumerate reversed range items keys values".split())
AROUND = set("list tuple dict sorted sum any all enumerate zip min max".split())
NO_VALUES = set(
    "items keys values pop update append clear extend insert remove reverse setdefault sort args encode format".split()
)
CHANGES = set("append clear extend insert pop remove reverse setdefault update add discard".split())
UNUSED = set("register mro elements open input version_info with_traceback add_note".split())


def sources():
    return {path: path.read_text("ascii") for path in sorted(PACKAGE.rglob("*.py"))}


def trees():
    return {path: ast.parse(source) for path, source in sources().items()}


def nodes():
    return [(path, node) for path, tree in trees().items() for node in ast.walk(tree)]


def bound_names(tree):
    for node in ast.walk(tree):
        if isinstance(node, ast.Name) and isinstance(node.ctx, ast.Store):
            yield node.id
        elif isinstance(node, (ast.FunctionDef, ast.ClassDef)):
            yield node.name
        elif isinstance(node, ast.arg):
            yield node.arg
        elif isinstance(node, ast.Attribute):
            yield node.attr


def called(node):
    """The name or the method that is called, None where the node is no call."""
    if not isinstance(node, ast.Call):
        return None
    return node.func.id if isinstance(node.func, ast.Name) else getattr(node.func, "attr", None)


def defined_in(module):
    path = PACKAGE / (module.removeprefix("unsaybook.") + ".py")
    body = ast.parse(path.read_text("ascii")).body
    defined = {node.name for node in body if isinstance(node, (ast.FunctionDef, ast.ClassDef))}
    return defined | {node.targets[0].id for node in body if isinstance(node, ast.Assign)}


class Files(unittest.TestCase):
    def test_names_of_files(self):
        self.assertTrue((PACKAGE / "__init__.py").is_file())
        for path in PACKAGE.rglob("*"):
            if "__pycache__" not in path.parts:
                self.assertRegex(path.name, r"^([a-z][a-z0-9_]*|__init__)\.py$")

    def test_sizes_and_signs(self):
        for path, source in sources().items():
            lines = source.split("\n")
            self.assertLessEqual(len(lines), 400, path)
            for number, line in enumerate(lines, start=1):
                self.assertRegex(line, r"^[ -~]{0,120}$", (path, number))

    def test_words_that_stand_nowhere(self):
        for path, source in sources().items():
            self.assertIsNone(WORDS.search(source), path)

    def test_imports(self):
        for path, node in nodes():
            if isinstance(node, ast.ImportFrom):
                self.assertEqual(node.level, 0, path)
                self.assertTrue(node.module.startswith("unsaybook."), (path, node.module))
                self.assertNotIn("*", [alias.name for alias in node.names], path)

    def test_names_are_drawn_from_where_they_are_defined(self):
        for path, node in nodes():
            if isinstance(node, ast.ImportFrom):
                self.assertLessEqual({alias.name for alias in node.names}, defined_in(node.module), path)

    def test_no_two_files_draw_from_one_another(self):
        drawn = {
            path.stem: [node.module.split(".")[1] for node in ast.walk(tree) if isinstance(node, ast.ImportFrom)]
            for path, tree in trees().items()
        }
        while drawn:
            free = [name for name in drawn if not set(drawn[name]) & set(drawn)]
            self.assertNotEqual(free, [], drawn)
            for name in free:
                drawn.pop(name)

    def test_the_top_of_a_module(self):
        for path, tree in trees().items():
            for node in tree.body[1:]:
                self.assertIsInstance(node, (ast.ImportFrom, ast.FunctionDef, ast.ClassDef, ast.Assign), path)
                if isinstance(node, ast.Assign):
                    ast.literal_eval(node.value)


class Forms(unittest.TestCase):
    def test_only_the_told_forms(self):
        for path, node in nodes():
            self.assertIsInstance(node, NODES, (path, getattr(node, "lineno", 0)))
            self.assertNotIsInstance(node, (ast.Div, ast.MatMult), path)

    def test_functions(self):
        for path, node in nodes():
            if isinstance(node, ast.FunctionDef):
                told = node.args
                self.assertLessEqual(node.end_lineno - node.lineno + 1, 40, (path, node.name))
                self.assertEqual(node.decorator_list, [], (path, node.name))
                self.assertFalse(told.vararg or told.kwarg or told.kwonlyargs or told.posonlyargs, (path, node.name))

    def test_classes(self):
        for path, node in nodes():
            if isinstance(node, ast.ClassDef):
                self.assertLessEqual(len(node.bases), 1, (path, node.name))
                self.assertEqual((node.decorator_list, node.keywords), ([], []), (path, node.name))
                for part in node.body:
                    self.assertIsInstance(part, (ast.FunctionDef, ast.Pass), (path, node.name))

    def test_statements(self):
        for path, node in nodes():
            if isinstance(node, ast.Assign):
                self.assertEqual(len(node.targets), 1, (path, node.lineno))
            if isinstance(node, (ast.For, ast.While)):
                self.assertEqual(node.orelse, [], (path, node.lineno))
            if isinstance(node, ast.Try):
                self.assertEqual(node.finalbody, [], (path, node.lineno))
            if isinstance(node, ast.comprehension):
                self.assertLessEqual(len(node.ifs), 1, path)
            if isinstance(node, ast.ListComp):
                self.assertEqual(len(node.generators), 1, (path, node.lineno))

    def test_is_stands_beside_none_and_truths(self):
        for path, node in nodes():
            if isinstance(node, ast.Compare) and any([isinstance(op, (ast.Is, ast.IsNot)) for op in node.ops]):
                plain = [side.value for side in node.comparators if isinstance(side, ast.Constant)]
                self.assertTrue(plain and plain[0] in (None, True, False), (path, node.lineno))

    def test_what_is_walked_on_the_spot(self):
        for path, node in nodes():
            good = [node.iter] if isinstance(node, (ast.For, ast.comprehension)) else []
            if called(node) in AROUND:
                good = node.args[:1]
            for part in ast.iter_child_nodes(node):
                if called(part) in WALKED:
                    self.assertIn(part, good, (path, part.lineno))


    def test_no_annotations(self):
        for path, node in nodes():
            told = getattr(node, "annotation", None) or getattr(node, "returns", None)
            self.assertIsNone(told, (path, getattr(node, "lineno", 0)))

    def test_methods_are_called_where_they_stand(self):
        own = {part.name for _, node in nodes() if isinstance(node, ast.ClassDef) for part in node.body
               if isinstance(part, ast.FunctionDef)}
        for path, tree in trees().items():
            good = [node.func for node in ast.walk(tree) if isinstance(node, ast.Call)]
            for node in ast.walk(tree):
                if isinstance(node, ast.Attribute) and node.attr in own | METHODS:
                    self.assertIn(node, good, (path, node.lineno))

    def test_what_a_loop_walks_is_not_changed_in_it(self):
        for path, node in nodes():
            if isinstance(node, ast.For):
                walked = {ast.unparse(part) for part in ast.walk(node.iter) if isinstance(part, (ast.Name, ast.Attribute))}
                for part in [inner for row in node.body for inner in ast.walk(row)]:
                    if called(part) in CHANGES and isinstance(part.func, ast.Attribute):
                        self.assertNotIn(ast.unparse(part.func.value), walked, (path, part.lineno))
                    if isinstance(part, ast.Subscript) and isinstance(part.ctx, ast.Store):
                        self.assertNotIn(ast.unparse(part.value), walked, (path, part.lineno))

    def test_sets_are_not_kept(self):
        for path, node in nodes():
            for part in ast.iter_child_nodes(node):
                if called(part) in ("set", "frozenset"):
                    good = called(node) in ("sorted", "len") or isinstance(node, (ast.Compare, ast.BinOp))
                    self.assertTrue(good, (path, part.lineno))

    def test_makers_give_back_nothing(self):
        for path, node in nodes():
            if isinstance(node, ast.FunctionDef) and node.name == "__init__":
                given = [part for part in ast.walk(node) if isinstance(part, ast.Return)]
                self.assertEqual(given, [], (path, node.lineno))

    def test_errors_that_are_taken(self):
        own = defined_in("unsaybook.errors") | {"KeyError", "ZeroDivisionError", "StopIteration"}
        for path, node in nodes():
            if isinstance(node, ast.ExceptHandler):
                self.assertIsNotNone(node.type, (path, node.lineno))
                taken = [part.id for part in ast.walk(node.type) if isinstance(part, ast.Name)]
                self.assertLessEqual(set(taken), own, (path, node.lineno))

    def test_f_strings(self):
        for path, node in nodes():
            if isinstance(node, ast.FormattedValue):
                self.assertIsInstance(node.value, ast.Name, (path, node.lineno))
                self.assertIsNone(node.format_spec, (path, node.lineno))
            if isinstance(node, ast.Constant) and isinstance(node.value, str):
                self.assertNotIn("%", node.value, (path, node.lineno))

    def test_powers_have_written_exponents(self):
        for path, node in nodes():
            if isinstance(node, ast.BinOp) and isinstance(node.op, ast.Pow):
                self.assertIsInstance(node.right, ast.Constant, (path, node.lineno))


class Names(unittest.TestCase):
    def test_no_local_is_called_like_a_class_or_an_import(self):
        for path, tree in trees().items():
            taken = {alias.name for node in ast.walk(tree) if isinstance(node, ast.ImportFrom) for alias in node.names}
            taken |= {node.name for node in tree.body if isinstance(node, ast.ClassDef)}
            for node in ast.walk(tree):
                if isinstance(node, ast.Name) and isinstance(node.ctx, ast.Store):
                    self.assertNotIn(node.id, taken, (path, node.lineno))
                if isinstance(node, ast.arg):
                    self.assertNotIn(node.arg, taken, (path, node.lineno))

    def test_the_top_binds_each_name_once(self):
        for path, tree in trees().items():
            bound = [node.name for node in tree.body if isinstance(node, (ast.FunctionDef, ast.ClassDef))]
            bound += [node.targets[0].id for node in tree.body if isinstance(node, ast.Assign)]
            bound += [alias.name for node in tree.body if isinstance(node, ast.ImportFrom) for alias in node.names]
            self.assertEqual(sorted(bound), sorted(set(bound)), path)

    def test_no_name_is_a_method_and_a_value(self):
        methods, values = set(), set()
        for _, node in nodes():
            if isinstance(node, ast.ClassDef):
                methods |= {part.name for part in node.body if isinstance(part, ast.FunctionDef)}
            if isinstance(node, ast.Attribute) and isinstance(node.ctx, ast.Store):
                values.add(node.attr)
        self.assertEqual(methods & values, set())
        self.assertEqual(values & NO_VALUES, set())

    def test_names_that_are_bound(self):
        for path, tree in trees().items():
            for name in bound_names(tree):
                self.assertTrue(name in UNDERSCORED or not name.startswith("_"), (path, name))
                self.assertNotIn(name, UNUSED, path)

    def test_no_name_of_pythons_own_is_given_another_meaning(self):
        for path, node in nodes():
            name = node.arg if isinstance(node, ast.arg) else None
            if isinstance(node, ast.Name) and isinstance(node.ctx, ast.Store):
                name = node.id
            self.assertFalse(name is not None and hasattr(builtins, name), (path, name))

    def test_only_the_told_names_of_pythons_own(self):
        for path, node in nodes():
            if isinstance(node, ast.Name) and hasattr(builtins, node.id):
                self.assertIn(node.id, OWN_NAMES, (path, node.lineno))

    def test_only_the_told_methods(self):
        own = {node.name for _, node in nodes() if isinstance(node, ast.FunctionDef)}
        for path, node in nodes():
            if isinstance(node, ast.Call) and isinstance(node.func, ast.Attribute):
                self.assertIn(node.func.attr, METHODS | own, (path, node.lineno))


if __name__ == "__main__":
    unittest.main()
