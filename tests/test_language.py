"""What a walk over the package's files can see of the rules in ../shared/LANGUAGE.md."""

import ast
import builtins
import pathlib
import re
import unittest

PACKAGE = pathlib.Path(__file__).resolve().parent.parent / "roundfall"

STATEMENTS = (
    ast.Assign, ast.AugAssign, ast.If, ast.While, ast.For, ast.Return, ast.Break, ast.Continue, ast.Pass,
    ast.Raise, ast.Try, ast.Expr, ast.FunctionDef, ast.ClassDef, ast.ImportFrom)
EXPRESSIONS = (
    ast.Constant, ast.List, ast.Tuple, ast.Dict, ast.BinOp, ast.UnaryOp, ast.BoolOp, ast.Compare, ast.IfExp,
    ast.Call, ast.Attribute, ast.Subscript, ast.Slice, ast.ListComp, ast.JoinedStr, ast.FormattedValue,
    ast.Name, ast.Lambda)
BUILT_IN = (
    "len range enumerate zip min max sum abs sorted reversed int str bool list tuple dict set frozenset"
    " isinstance ord repr any all divmod Exception ValueError TypeError KeyError IndexError LookupError"
    " ZeroDivisionError ArithmeticError OverflowError RuntimeError NotImplementedError AttributeError"
    " StopIteration").split()
METHODS = (
    "append clear copy count endswith extend find get index insert isalnum isalpha isdigit islower isspace"
    " isupper items join keys ljust lower lstrip partition pop remove replace reverse rfind rjust rpartition"
    " rsplit rstrip setdefault split splitlines startswith strip update upper values zfill bit_length").split()
DUNDERS = ("__init__", "__eq__", "__repr__", "__str__", "__len__")
NEVER = ("register", "mro", "elements", "open", "input", "version_info", "with_traceback", "add_note")
WORDS = (
    "type typing typing_extensions enum Enum IntEnum StrEnum Flag IntFlag Generic Protocol ABC ABCMeta"
    " namedtuple NamedTuple TypedDict TYPE_CHECKING abstractmethod").split()
WORD_PARTS = ("dataclass", "overload", "contextmanager")


def files():
    return sorted(path for path in PACKAGE.rglob("*") if "__pycache__" not in path.parts)


def trees():
    return [(path.name, ast.parse(path.read_text(encoding="utf-8"))) for path in files()]


def nodes(kinds):
    return [(name, node) for name, tree in trees() for node in ast.walk(tree) if isinstance(node, kinds)]


def bound_names(tree):
    """The names of parameters and locals, and of what a file's top binds."""
    told = [node.arg for node in ast.walk(tree) if isinstance(node, ast.arg)]
    told += [node.id for node in ast.walk(tree) if isinstance(node, ast.Name) and isinstance(node.ctx, ast.Store)]
    return told


def defined_names(tree):
    return [node.name for node in ast.walk(tree) if isinstance(node, (ast.FunctionDef, ast.ClassDef))]


def imported_names(tree):
    return [alias.name for node in ast.walk(tree) if isinstance(node, ast.ImportFrom) for alias in node.names]


class FilesTest(unittest.TestCase):
    def test_l1_l14_files(self):
        self.assertIn("__init__.py", [path.name for path in files()])
        for path in files():
            self.assertRegex(path.name, r"^([a-z][a-z0-9_]*|__init__|__main__)\.py$")
            self.assertNotIn(path.stem, dir(builtins))

    def test_l10_size(self):
        for path in files():
            text = path.read_text(encoding="utf-8")
            self.assertLessEqual(len(text.splitlines()), 400, path.name)
            self.assertLessEqual(max(len(row) for row in text.splitlines()), 120, path.name)
        for name, node in nodes(ast.FunctionDef):
            self.assertLessEqual(node.end_lineno - node.lineno + 1, 40, (name, node.name))

    def test_l14_signs(self):
        for path in files():
            self.assertRegex(path.read_bytes(), rb"\A[ -~\n]*\Z", path.name)

    def test_l17_words(self):
        for path in files():
            text = path.read_text(encoding="utf-8")
            self.assertEqual(set(re.findall(r"\w+", text)) & set(WORDS), set(), path.name)
            self.assertEqual([part for part in WORD_PARTS if part in text], [], path.name)


class FormTest(unittest.TestCase):
    def test_l6_l7_nodes(self):
        for name, node in nodes((ast.stmt, ast.expr)):
            self.assertIsInstance(node, STATEMENTS + EXPRESSIONS, (name, node.lineno))

    def test_l6_statements(self):
        for name, node in nodes((ast.For, ast.While)):
            self.assertEqual(node.orelse, [], (name, node.lineno))
        for name, node in nodes(ast.Assign):
            self.assertEqual(len(node.targets), 1, (name, node.lineno))
        for name, node in nodes(ast.Try):
            self.assertEqual(node.finalbody, [], (name, node.lineno))
        for name, tree in trees():
            for node in ast.walk(tree):
                if isinstance(node, ast.Expr) and node is not tree.body[0]:
                    self.assertIsInstance(node.value, ast.Call, (name, node.lineno))

    def test_l7_values(self):
        for name, node in nodes(ast.Constant):
            self.assertIsInstance(node.value, (int, str, type(None)), (name, node.lineno))
        for name, node in nodes(ast.BinOp):
            self.assertNotIsInstance(node.op, (ast.Div, ast.MatMult), (name, node.lineno))
        for name, node in nodes(ast.ListComp):
            self.assertEqual(len(node.generators), 1, (name, node.lineno))
            self.assertLessEqual(len(node.generators[0].ifs), 1, (name, node.lineno))

    def test_l3_l15_the_top(self):
        for name, tree in trees():
            self.assertIsNotNone(ast.get_docstring(tree), name)
            bound = []
            for node in tree.body[1:]:
                self.assertIsInstance(node, (ast.ImportFrom, ast.FunctionDef, ast.ClassDef, ast.Assign), name)
                if isinstance(node, ast.Assign):
                    plain = (ast.Constant, ast.List, ast.Tuple, ast.Dict, ast.Name, ast.UnaryOp)
                    self.assertIsInstance(node.value, plain, (name, node.lineno))
                    bound += [target.id for target in node.targets]
                if isinstance(node, (ast.FunctionDef, ast.ClassDef)):
                    bound.append(node.name)
            bound += imported_names(tree)
            self.assertEqual(sorted(bound), sorted(set(bound)), name)

    def test_l4_l21_functions(self):
        for name, node in nodes(ast.FunctionDef):
            where = (name, node.lineno)
            self.assertEqual(node.decorator_list, [], where)
            self.assertEqual((node.args.vararg, node.args.kwarg), (None, None), where)
            self.assertEqual(node.args.kwonlyargs + node.args.posonlyargs, [], where)
            self.assertIsNone(node.returns, where)
            self.assertEqual([one.annotation for one in node.args.args if one.annotation], [], where)

    def test_l5_classes(self):
        for name, node in nodes(ast.ClassDef):
            where = (name, node.lineno)
            self.assertEqual((node.decorator_list, node.keywords), ([], []), where)
            self.assertLessEqual(len(node.bases), 1, where)
            for inner in node.body:
                self.assertIsInstance(inner, (ast.FunctionDef, ast.Pass), where)

    def test_l20_is(self):
        for name, node in nodes(ast.Compare):
            for operator, right in zip(node.ops, node.comparators):
                if isinstance(operator, (ast.Is, ast.IsNot)):
                    self.assertIsInstance(right, ast.Constant, (name, node.lineno))
                    self.assertIn(repr(right.value), ("None", "True", "False"), (name, node.lineno))

    def test_l27_powers(self):
        for name, node in nodes(ast.BinOp):
            if isinstance(node.op, ast.Pow):
                self.assertIsInstance(node.right, ast.Constant, (name, node.lineno))
                self.assertIn(node.right.value, range(65), (name, node.lineno))


class NamesTest(unittest.TestCase):
    def test_l2_l16_imports(self):
        modules = {path.stem for path in files()}
        drawn = {}
        for name, tree in trees():
            drawn[name[:-3]] = []
            for node in ast.walk(tree):
                if isinstance(node, ast.ImportFrom):
                    self.assertEqual(node.level, 0, name)
                    self.assertEqual(node.module.split(".")[0], "roundfall", name)
                    source = node.module.split(".")[1]
                    self.assertIn(source, modules, name)
                    drawn[name[:-3]].append(source)
                    self.assertEqual([one.asname for one in node.names if one.asname], [], name)
                    text = (PACKAGE / (source + ".py")).read_text(encoding="utf-8")
                    top = ast.parse(text)
                    for one in node.names:
                        self.assertIn(one.name, defined_names(top) + bound_names(top), name)
        self.assertEqual(drawn["__init__"], [])
        while drawn:
            free = [name for name in drawn if not set(drawn[name]) & set(drawn)]
            self.assertNotEqual(free, [], drawn)
            drawn = {name: drawn[name] for name in drawn if name not in free}

    def test_l8_l15_own_names_are_not_pythons(self):
        for name, tree in trees():
            for bound in bound_names(tree) + defined_names(tree):
                if bound not in DUNDERS:
                    self.assertRegex(bound, r"^[A-Za-z][A-Za-z0-9_]*$", name)
                self.assertNotIn(bound, dir(builtins), name)
                self.assertNotIn(bound, NEVER, name)

    def test_l8_names_that_are_used(self):
        for name, tree in trees():
            own = bound_names(tree) + defined_names(tree) + imported_names(tree)
            for node in ast.walk(tree):
                if isinstance(node, ast.Name):
                    self.assertIn(node.id, own + BUILT_IN, (name, node.lineno))

    def test_l15_locals_are_not_called_like_imports_or_classes(self):
        for name, tree in trees():
            classes = [node.name for node in tree.body if isinstance(node, ast.ClassDef)]
            self.assertEqual(set(bound_names(tree)) & set(imported_names(tree) + classes), set(), name)

    def test_l25_l26_methods(self):
        own = [node.name for name, node in nodes(ast.FunctionDef)]
        for name, node in nodes(ast.Call):
            if isinstance(node.func, ast.Attribute):
                self.assertIn(node.func.attr, METHODS + own, (name, node.lineno))
        for name, node in nodes(ast.Attribute):
            self.assertNotIn(node.attr, NEVER + ("format", "format_map"), (name, node.lineno))

    def test_l24_sets(self):
        """A set stands straight within sorted or len, or beside a comparison."""
        for name, tree in trees():
            fit = []
            for node in ast.walk(tree):
                if isinstance(node, ast.Compare):
                    fit += [node.left] + node.comparators
                if isinstance(node, ast.Call) and isinstance(node.func, ast.Name) and node.func.id in ("sorted", "len"):
                    fit += node.args
            for node in list(fit):
                if isinstance(node, ast.BinOp):
                    fit += [inner for inner in ast.walk(node)]
            for node in ast.walk(tree):
                if isinstance(node, ast.Call) and isinstance(node.func, ast.Name) and node.func.id == "set":
                    self.assertIn(node, fit, (name, node.lineno))


if __name__ == "__main__":
    unittest.main()
