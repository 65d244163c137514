"""Whether the package's files keep to the small part of Python that they are written in."""

import ast
import builtins
import pathlib
import re
import unittest

ROOT = pathlib.Path(__file__).resolve().parent.parent / "stepledger"

ERRORS = set(
    "Exception ValueError TypeError KeyError IndexError LookupError ZeroDivisionError ArithmeticError OverflowError "
    "RuntimeError NotImplementedError AttributeError StopIteration".split()
)
OWN_NAMES = ERRORS | set(
    "len range enumerate zip min max sum abs sorted reversed int str bool list tuple dict set frozenset isinstance ord "
    "repr any all divmod".split()
)
METHODS = set(
    "append clear copy count endswith extend find get index insert isalnum isalpha isdigit islower isspace isupper "
    "items join keys ljust lower lstrip partition pop remove replace reverse rfind rjust rpartition rsplit rstrip "
    "setdefault split splitlines startswith strip update upper values zfill bit_length".split()
)
TWO_UNDERSCORES = {"__init__", "__eq__", "__repr__", "__str__", "__len__"}
WORDS_NOT_USED = re.compile(
    r"\b(type|typing|typing_extensions|enum|Enum|IntEnum|StrEnum|Flag|IntFlag|Generic|Protocol|ABC|ABCMeta|namedtuple|"
    r"NamedTuple|TypedDict|TYPE_CHECKING|abstractmethod)\b|dataclass|overload|contextmanager"
)
NAMES_NOT_USED = set(
    "register mro elements open input version_info with_traceback add_note attrgetter breakpoint builtins compile "
    "copyright credits delattr dir eval exec exit gc getattr globals hasattr help id importlib license locals "
    "methodcaller os quit setattr super type vars sys".split()
)
# Those of Python's own methods that a value of an object may be called like.
VALUES_ALLOWED = set("count index title find get join lower upper split strip copy add".split())
NODES = (
    ast.Module, ast.ImportFrom, ast.alias, ast.FunctionDef, ast.ClassDef, ast.arguments, ast.arg, ast.Assign,
    ast.AugAssign, ast.If, ast.While, ast.For, ast.Return, ast.Break, ast.Continue, ast.Pass, ast.Raise, ast.Try,
    ast.ExceptHandler, ast.Expr, ast.Constant, ast.Name, ast.Tuple, ast.List, ast.Dict, ast.Set, ast.BinOp,
    ast.UnaryOp, ast.BoolOp, ast.Compare, ast.IfExp, ast.Call, ast.keyword, ast.Attribute, ast.Subscript, ast.Slice,
    ast.ListComp, ast.comprehension, ast.JoinedStr, ast.FormattedValue, ast.Lambda, ast.expr_context, ast.operator,
    ast.unaryop, ast.boolop, ast.cmpop,
)


def files():
    return sorted(path for path in ROOT.rglob("*") if "__pycache__" not in path.parts and path.is_file())


def walked():
    for path in files():
        for node in ast.walk(ast.parse(path.read_text())):
            yield path, node


def trees():
    return {path.stem: ast.parse(path.read_text()) for path in files()}


def drawn_from(tree):
    return {node.module.split(".")[1] for node in ast.walk(tree) if isinstance(node, ast.ImportFrom)}


def method_names(tree):
    classes = [node for node in ast.walk(tree) if isinstance(node, ast.ClassDef)]
    return {part.name for node in classes for part in node.body if isinstance(part, ast.FunctionDef)}


def value_names(tree):
    return {n.attr for n in ast.walk(tree) if isinstance(n, ast.Attribute) and isinstance(n.ctx, ast.Store)}


def bound_names(tree):
    for node in ast.walk(tree):
        if isinstance(node, (ast.FunctionDef, ast.ClassDef)):
            yield node.name
        elif isinstance(node, ast.arg):
            yield node.arg
        elif isinstance(node, ast.Name) and isinstance(node.ctx, ast.Store):
            yield node.id
        elif isinstance(node, ast.ExceptHandler) and node.name:
            yield node.name


class Form(unittest.TestCase):
    def where(self, path, node):
        return f"{path.name}:{getattr(node, 'lineno', 0)}"

    def test_files(self):
        self.assertIn("__init__.py", [path.name for path in files()])
        for path in files():
            self.assertEqual(path.parent, ROOT)
            self.assertRegex(path.name, r"^[a-z0-9_]+\.py$")
            self.assertRegex(path.read_text(), r"^[ -~\n]*$")

    def test_sizes(self):
        for path in files():
            lines = path.read_text().split("\n")
            self.assertLessEqual(len(lines), 400)
            self.assertLessEqual(max(len(line) for line in lines), 120, path.name)
        for path, node in walked():
            if isinstance(node, ast.FunctionDef):
                self.assertLessEqual(node.end_lineno - node.lineno + 1, 40, self.where(path, node))

    def test_words_that_stand_nowhere(self):
        for path in files():
            self.assertIsNone(WORDS_NOT_USED.search(path.read_text()), path.name)

    def test_only_the_told_forms(self):
        for path, node in walked():
            where = self.where(path, node)
            self.assertIsInstance(node, NODES, where)
            self.assertNotIsInstance(node, (ast.Div, ast.MatMult), where)
            if isinstance(node, ast.Constant):
                self.assertNotIsInstance(node.value, (float, complex, bytes), where)
            if isinstance(node, ast.Assign):
                self.assertEqual(len(node.targets), 1, where)
                self.assertNotIsInstance(node.targets[0], (ast.Tuple, ast.List), where)
            if isinstance(node, (ast.For, ast.While)):
                self.assertEqual(node.orelse, [], where)
            if isinstance(node, ast.Try):
                self.assertEqual(node.finalbody, [], where)
            if isinstance(node, ast.ListComp):
                self.assertEqual(len(node.generators), 1, where)
                self.assertLessEqual(len(node.generators[0].ifs), 1, where)
            if isinstance(node, ast.FormattedValue):
                self.assertIsInstance(node.value, ast.Name, where)
                self.assertIsNone(node.format_spec, where)
            if isinstance(node, ast.Compare) and any(isinstance(op, (ast.Is, ast.IsNot)) for op in node.ops):
                self.assertIsInstance(node.comparators[0], ast.Constant, where)

    def test_imports(self):
        names = [path.stem for path in files()]
        for path, node in walked():
            if isinstance(node, ast.ImportFrom):
                self.assertEqual(node.level, 0, self.where(path, node))
                package, module = node.module.split(".")
                self.assertEqual(package, "stepledger")
                self.assertIn(module, names)

    def test_functions_and_classes_are_plain(self):
        for path, node in walked():
            where = self.where(path, node)
            if isinstance(node, (ast.FunctionDef, ast.ClassDef)):
                self.assertEqual(node.decorator_list, [], where)
            if isinstance(node, ast.arguments):
                self.assertEqual((node.posonlyargs, node.kwonlyargs, node.vararg, node.kwarg), ([], [], None, None))
            if isinstance(node, ast.ClassDef):
                self.assertLessEqual(len(node.bases), 1, where)
                for part in node.body:
                    self.assertIsInstance(part, (ast.FunctionDef, ast.Pass), where)

    def test_names(self):
        builtin = set(dir(builtins))
        for path in files():
            for name in bound_names(ast.parse(path.read_text())):
                if name not in TWO_UNDERSCORES:
                    self.assertRegex(name, r"^[A-Za-z][A-Za-z0-9_]*$", path.name)
                    self.assertNotIn(name, builtin, path.name)
        for path, node in walked():
            if isinstance(node, ast.Name) and node.id in builtin:
                self.assertIn(node.id, OWN_NAMES, self.where(path, node))

    def test_methods(self):
        own = set().union(*[method_names(tree) for tree in trees().values()])
        for path, node in walked():
            if isinstance(node, ast.Call) and isinstance(node.func, ast.Attribute):
                self.assertIn(node.func.attr, METHODS | own, self.where(path, node))

    def test_values_of_objects(self):
        pythons = set().union(*[dir(kind) for kind in (str, int, list, tuple, dict, set, bytes)]) | {"args"}
        methods = set().union(*[method_names(tree) for tree in trees().values()])
        for name, tree in trees().items():
            self.assertEqual(value_names(tree) & methods, set(), name)
            self.assertEqual(value_names(tree) & (pythons - VALUES_ALLOWED), set(), name)

    def test_names_that_are_not_used(self):
        for path, node in walked():
            for name in (getattr(node, "id", None), getattr(node, "attr", None)):
                self.assertNotIn(name, NAMES_NOT_USED, self.where(path, node))

    def test_each_name_once_at_a_file_s_top(self):
        for name, tree in trees().items():
            top = []
            for node in tree.body:
                if isinstance(node, ast.ImportFrom):
                    top += [alias.asname or alias.name for alias in node.names]
                elif isinstance(node, ast.Assign):
                    top.append(node.targets[0].id)
                elif not isinstance(node, ast.Expr):
                    top.append(node.name)
            self.assertEqual(sorted(set(top)), sorted(top), name)

    def test_no_local_is_called_like_a_class_or_an_import(self):
        for name, tree in trees().items():
            taken = {alias.name for node in ast.walk(tree) if isinstance(node, ast.ImportFrom) for alias in node.names}
            taken |= {node.name for node in tree.body if isinstance(node, ast.ClassDef)}
            for node in ast.walk(tree):
                if isinstance(node, ast.FunctionDef):
                    self.assertEqual(taken & set(bound_names(node)), set(), f"{name}: {node.name}")

    def test_each_import_is_from_the_file_that_defines_it(self):
        for name, tree in trees().items():
            for node in ast.walk(tree):
                if isinstance(node, ast.ImportFrom):
                    defined = [getattr(part, "name", None) for part in trees()[node.module.split(".")[1]].body]
                    for alias in node.names:
                        self.assertIn(alias.name, defined, name)

    def test_no_two_files_draw_from_one_another(self):
        left = {name: drawn_from(tree) for name, tree in trees().items()}
        while left:
            free = [name for name in left if not left[name] & set(left)]
            self.assertNotEqual(free, [], sorted(left))
            for name in free:
                del left[name]


if __name__ == "__main__":
    unittest.main()
