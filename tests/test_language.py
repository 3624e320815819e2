"""Holds the package's files to the part of the language that it keeps to, as far as a reading of them can see."""

import ast
import builtins
import pathlib
import re
import unittest

PACKAGE = pathlib.Path(__file__).resolve().parent.parent / "clackrow"

BUILTINS = set("""len range enumerate zip min max sum abs sorted reversed int str bool bytes list tuple dict set frozenset
isinstance ord repr any all divmod Exception ValueError TypeError KeyError IndexError LookupError ZeroDivisionError
ArithmeticError OverflowError RuntimeError NotImplementedError AttributeError StopIteration""".split())
METHODS = set("""append clear copy count endswith extend find get index insert isalnum isalpha isdigit islower isspace
isupper items join keys ljust lower lstrip partition pop remove replace reverse rfind rjust rpartition rsplit rstrip
setdefault split splitlines startswith strip update upper values zfill bit_length title capitalize swapcase casefold
center removeprefix removesuffix rindex isascii isdecimal isnumeric istitle isidentifier isprintable add discard sort
__init__""".split())
DUNDERS = set("__init__ __eq__ __repr__ __str__ __len__".split())
WORDS = set("""type typing typing_extensions enum Enum IntEnum StrEnum Flag IntFlag Generic Protocol ABC ABCMeta
namedtuple NamedTuple TypedDict TYPE_CHECKING abstractmethod""".split())
PIECES = ["dataclass", "overload", "contextmanager"]
NEVER = set("register mro elements open input version_info with_traceback add_note format format_map".split())
NOT_NAMES = set("""attrgetter breakpoint builtins compile copyright credits delattr dir eval exec exit gc getattr globals
hasattr help id importlib license locals methodcaller os quit setattr super type vars sys""".split())
TOP = (ast.FunctionDef, ast.ClassDef, ast.ImportFrom, ast.Assign)
NODES = (
    ast.Module, ast.FunctionDef, ast.ClassDef, ast.ImportFrom, ast.alias, ast.arguments, ast.arg, ast.Lambda,
    ast.Assign, ast.AugAssign, ast.If, ast.While, ast.For, ast.Return, ast.Break, ast.Continue, ast.Pass, ast.Raise,
    ast.Try, ast.ExceptHandler, ast.Expr, ast.Assert, ast.Delete, ast.Constant, ast.Name, ast.Tuple, ast.List,
    ast.Dict, ast.Set, ast.BinOp, ast.UnaryOp, ast.BoolOp, ast.Compare, ast.IfExp, ast.Call, ast.keyword,
    ast.Attribute, ast.Subscript, ast.Slice, ast.ListComp, ast.DictComp, ast.SetComp, ast.comprehension,
    ast.JoinedStr, ast.FormattedValue, ast.Starred, ast.operator, ast.unaryop, ast.boolop, ast.cmpop,
    ast.expr_context,
)


WALKED = ["zip", "enumerate", "reversed", "range", "items", "keys", "values"]
WALKERS = ["list", "tuple", "dict", "sorted", "sum", "any", "all", "enumerate", "zip", "min", "max"]


def called_name(node):
    """The name by which a call calls, of a method too."""
    return node.func.attr if isinstance(node.func, ast.Attribute) else getattr(node.func, "id", "")


def files():
    return sorted(PACKAGE.rglob("*.py"))


def nodes():
    return [(path, node) for path in files() for node in ast.walk(ast.parse(path.read_text("utf-8")))]


def bound_names(path, node):
    if isinstance(node, ast.Name) and not isinstance(node.ctx, ast.Load):
        return [node.id]
    if isinstance(node, ast.arg):
        return [node.arg]
    if isinstance(node, (ast.FunctionDef, ast.ClassDef)):
        return [node.name]
    if isinstance(node, ast.ExceptHandler) and node.name:
        return [node.name]
    return []


class Language(unittest.TestCase):
    def test_files(self):
        self.assertTrue((PACKAGE / "__init__.py").is_file())
        for path in PACKAGE.rglob("*"):
            if "__pycache__" not in path.parts:
                self.assertRegex(path.name, r"^(__init__|__main__|[a-z][a-z0-9_]*)\.py$")

    def test_signs_and_sizes(self):
        for path in files():
            rows = path.read_text("utf-8").split("\n")
            self.assertLessEqual(len(rows), 400, path)
            for row in rows:
                self.assertRegex(row, r"^[ -~]{0,120}$", path)

    def test_words(self):
        for path in files():
            text = path.read_text("utf-8")
            self.assertEqual(set(re.findall(r"\w+", text)) & WORDS, set(), path)
            for piece in PIECES:
                self.assertNotIn(piece, text, path)

    def test_statements_and_expressions(self):
        for path, node in nodes():
            where = (path.name, getattr(node, "lineno", 0), ast.dump(node)[:80])
            self.assertIsInstance(node, NODES, where)
            self.assertNotIsInstance(node, (ast.Div, ast.MatMult), where)
            if isinstance(node, (ast.For, ast.While)):
                self.assertEqual(node.orelse, [], where)
            if isinstance(node, ast.Constant):
                self.assertNotIsInstance(node.value, (float, complex), where)
                self.assertFalse(isinstance(node.value, str) and chr(37) in node.value, where)
            if isinstance(node, ast.FormattedValue):
                self.assertIsNone(node.format_spec, where)
            if isinstance(node, ast.BinOp) and isinstance(node.op, ast.Pow):
                self.assertTrue(isinstance(node.right, ast.Constant) and 0 <= node.right.value <= 64, where)

    def test_is_stands_beside_none_true_and_false_alone(self):
        for path, node in nodes():
            if isinstance(node, ast.Compare):
                for sign, right in zip(node.ops, node.comparators):
                    if isinstance(sign, (ast.Is, ast.IsNot)):
                        self.assertTrue(isinstance(right, ast.Constant), (path.name, node.lineno))
                        self.assertIn(right.value, [None, True, False], (path.name, node.lineno))

    def test_what_is_walked_at_once_is_not_kept(self):
        for path in files():
            tree = ast.parse(path.read_text("utf-8"))
            walked = []
            for node in ast.walk(tree):
                if isinstance(node, (ast.For, ast.comprehension)):
                    walked.append(node.iter)
                elif isinstance(node, ast.Call) and isinstance(node.func, ast.Name) and node.func.id in WALKERS:
                    walked += node.args
            for node in ast.walk(tree):
                if isinstance(node, ast.Call) and called_name(node) in WALKED:
                    self.assertTrue(any([node is one for one in walked]), (path.name, node.lineno))

    def test_sets_are_not_kept(self):
        for path in files():
            tree = ast.parse(path.read_text("utf-8"))
            within = [one for node in ast.walk(tree) if isinstance(node, ast.Call) and called_name(node) in ["sorted", "len"]
                      for one in node.args]
            for node in ast.walk(tree):
                self.assertNotIsInstance(node, (ast.Set, ast.SetComp), path.name)
                if isinstance(node, ast.Call) and called_name(node) == "set":
                    self.assertTrue(any([node is one for one in within]), (path.name, node.lineno))

    def test_functions(self):
        for path, node in nodes():
            if isinstance(node, ast.FunctionDef):
                where = (path.name, node.name)
                self.assertLessEqual(node.end_lineno - node.lineno + 1, 40, where)
                self.assertEqual(node.decorator_list, [], where)
            if isinstance(node, ast.arguments):
                self.assertTrue(node.vararg is None and node.kwarg is None and node.posonlyargs == [], path.name)

    def test_classes(self):
        for path, node in nodes():
            if isinstance(node, ast.ClassDef):
                where = (path.name, node.name)
                self.assertLessEqual(len(node.bases), 1, where)
                self.assertEqual((node.decorator_list, node.keywords), ([], []), where)
                for row in node.body:
                    plain = isinstance(row, ast.Expr) and isinstance(row.value, ast.Constant)
                    self.assertTrue(plain or isinstance(row, ast.FunctionDef), where)
                    if isinstance(row, ast.FunctionDef) and row.name.startswith("__"):
                        self.assertIn(row.name, DUNDERS, where)

    def test_the_top_of_a_file(self):
        for path in files():
            first, *rest = ast.parse(path.read_text("utf-8")).body
            self.assertTrue(isinstance(first, ast.Expr) and isinstance(first.value.value, str), path.name)
            bound = []
            for row in rest:
                self.assertIsInstance(row, TOP, (path.name, row.lineno))
                if isinstance(row, ast.ImportFrom):
                    bound += [alias.asname or alias.name for alias in row.names]
                elif isinstance(row, ast.Assign):
                    self.assertEqual(len(row.targets), 1, (path.name, row.lineno))
                    bound.append(row.targets[0].id)
                else:
                    bound.append(row.name)
            self.assertEqual(len(bound), len(set(bound)), path.name)

    def test_imports(self):
        for path, node in nodes():
            if isinstance(node, ast.ImportFrom):
                self.assertEqual(node.level, 0, path.name)
                self.assertRegex(node.module, r"^clackrow\.[a-z0-9_]+$", path.name)
                source = ast.parse((PACKAGE / (node.module.split(".")[1] + ".py")).read_text("utf-8"))
                own = [name for row in source.body for name in bound_names(path, row)]
                own += [row.targets[0].id for row in source.body if isinstance(row, ast.Assign)]
                for alias in node.names:
                    self.assertIn(alias.name, own, path.name)

    def test_no_two_files_draw_from_one_another(self):
        drawn = {path.stem: [] for path in files()}
        for path, node in nodes():
            if isinstance(node, ast.ImportFrom):
                drawn[path.stem].append(node.module.split(".")[1])
        while drawn:
            free = [name for name in drawn if not set(drawn[name]) & set(drawn)]
            self.assertNotEqual(free, [], drawn)
            for name in free:
                del drawn[name]

    def test_names(self):
        for path, node in nodes():
            for name in bound_names(path, node):
                where = (path.name, node.lineno, name)
                if name not in DUNDERS:
                    self.assertRegex(name, r"^[A-Za-z][A-Za-z0-9_]*$", where)
                    self.assertFalse(hasattr(builtins, name), where)
                    self.assertNotIn(name, NEVER | NOT_NAMES, where)

    def test_pythons_own_names(self):
        for path in files():
            tree = ast.parse(path.read_text("utf-8"))
            own = set([name for node in ast.walk(tree) for name in bound_names(path, node)])
            own |= set([alias.asname or alias.name for node in ast.walk(tree) if isinstance(node, ast.ImportFrom)
                        for alias in node.names])
            for node in ast.walk(tree):
                if isinstance(node, ast.Name) and isinstance(node.ctx, ast.Load):
                    self.assertIn(node.id, own | BUILTINS, (path.name, node.lineno))

    def test_locals_are_not_called_like_imports_or_classes(self):
        for path in files():
            tree = ast.parse(path.read_text("utf-8"))
            taken = [alias.asname or alias.name for row in tree.body if isinstance(row, ast.ImportFrom)
                     for alias in row.names]
            taken += [row.name for row in tree.body if isinstance(row, ast.ClassDef)]
            for row in tree.body:
                if isinstance(row, (ast.FunctionDef, ast.ClassDef)):
                    for node in list(ast.walk(row))[1:]:
                        for name in bound_names(path, node):
                            self.assertNotIn(name, taken, (path.name, node.lineno))

    def test_attributes(self):
        given = set([node.attr for path, node in nodes()
                     if isinstance(node, ast.Attribute) and isinstance(node.ctx, ast.Store)])
        own = set([row.name for path, node in nodes() if isinstance(node, ast.ClassDef)
                   for row in node.body if isinstance(row, ast.FunctionDef)])
        for path, node in nodes():
            if isinstance(node, ast.Attribute):
                self.assertIn(node.attr, METHODS | given | own, (path.name, node.lineno))
                self.assertNotIn(node.attr, NEVER, (path.name, node.lineno))


if __name__ == "__main__":
    unittest.main()
