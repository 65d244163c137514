"""Whether the package's files keep to the small part of Python that they are written in."""

import ast
import builtins
import pathlib
import re
import unittest

ROOT = pathlib.Path(__file__).resolve().parent.parent / "stepledger"

ERRORS = set(
    "Exception ValueError TypeError KeyError IndexError LookupError ZeroDivisionError ArithmeticError OverflowError "
    "RuntimeError NotImplementedError AttributeError StopIteration".split()
)
OWN_NAMES = ERRORS | set(
    "len range enumerate zip min max sum abs sorted reversed int str bool list tuple dict set frozenset isinstance ord "
    "repr any all divmod".split()
)
METHODS = set(
    "append clear copy count endswith extend find get index insert isalnum isalpha isdigit islower isspace isupper "
    "items join keys ljust lower lstrip partition pop remove replace reverse rfind rjust rpartition rsplit rstrip "
    "setdefault split splitlines startswith strip update upper values zfill bit_length".split()
)
TWO_UNDERSCORES = {"__init__", "__eq__", "__repr__", "__str__", "__len__"}
WORDS_NOT_USED = re.compile(
    r"\b(type|typing|typing_extensions|enum|Enum|IntEnum|StrEnum|Flag|IntFlag|Generic|Protocol|ABC|ABCMeta|namedtuple|"
    r"NamedTuple|TypedDict|TYPE_CHECKING|abstractmethod)\b|dataclass|overload|contextmanager"
)
NAMES_NOT_USED = set(
    "register mro elements open input version_info with_traceback add_note attrgetter breakpoint builtins compile "
    "copyright credits delattr dir eval exec exit gc getattr globals hasattr help id importlib license locals "
    "methodcaller os quit setattr super type vars sys".split()
)
# Which keywords may stand at which of Python's own names.
KEYWORDS = {
    "sorted": {"key", "reverse"}, "min": {"key", "default"}, "max": {"key", "default"}, "sum": {"start"},
    "enumerate": {"start"}, "zip": {"strict"},
}
WALKED_AT_ONCE = {"zip", "enumerate", "reversed", "range", "items", "keys", "values"}
WALKERS = {"list", "tuple", "dict", "sorted", "sum", "any", "all", "enumerate", "zip", "min", "max", "join"}
# Those of Python's own methods that a value of an object may be called like.
VALUES_ALLOWED = set("count index title find get join lower upper split strip copy add".split())
NODES = (
    ast.Module, ast.ImportFrom, ast.alias, ast.FunctionDef, ast.ClassDef, ast.arguments, ast.arg, ast.Assign,
    ast.AugAssign, ast.If, ast.While, ast.For, ast.Return, ast.Break, ast.Continue, ast.Pass, ast.Raise, ast.Try,
    ast.ExceptHandler, ast.Expr, ast.Constant, ast.Name, ast.Tuple, ast.List, ast.Dict, ast.Set, ast.BinOp,
    ast.UnaryOp, ast.BoolOp, ast.Compare, ast.IfExp, ast.Call, ast.keyword, ast.Attribute, ast.Subscript, ast.Slice,
    ast.ListComp, ast.comprehension, ast.JoinedStr, ast.FormattedValue, ast.Lambda, ast.expr_context, ast.operator,
    ast.unaryop, ast.boolop, ast.cmpop,
)


def files():
    return sorted(path for path in ROOT.rglob("*") if "__pycache__" not in path.parts and path.is_file())


def walked():
    for path in files():
        for node in ast.walk(ast.parse(path.read_text())):
            yield path, node


def trees():
    return {path.stem: ast.parse(path.read_text()) for path in files()}


def drawn_from(tree):
    return {node.module.split(".")[1] for node in ast.walk(tree) if isinstance(node, ast.ImportFrom)}


def defined_names(tree):
    plain = {node.targets[0].id for node in tree.body if isinstance(node, ast.Assign)}
    return plain | {node.name for node in tree.body if isinstance(node, (ast.FunctionDef, ast.ClassDef))}


def kept_names(tree):
    """The names of lists and dicts at a file's top."""
    kept = [node for node in tree.body if isinstance(node, ast.Assign) and isinstance(node.value, (ast.List, ast.Dict))]
    return {node.targets[0].id for node in kept}


def called_name(node):
    """The name of a call by a plain name, or that of a method; None of anything else."""
    if not isinstance(node, ast.Call):
        return None
    return node.func.id if isinstance(node.func, ast.Name) else node.func.attr


def parents(tree):
    return {child: node for node in ast.walk(tree) for child in ast.iter_child_nodes(node)}


def method_names(tree):
    classes = [node for node in ast.walk(tree) if isinstance(node, ast.ClassDef)]
    return {part.name for node in classes for part in node.body if isinstance(part, ast.FunctionDef)}


def value_names(tree):
    return {n.attr for n in ast.walk(tree) if isinstance(n, ast.Attribute) and isinstance(n.ctx, ast.Store)}


def bound_names(tree):
    for node in ast.walk(tree):
        if isinstance(node, (ast.FunctionDef, ast.ClassDef)):
            yield node.name
        elif isinstance(node, ast.arg):
            yield node.arg
        elif isinstance(node, ast.Name) and isinstance(node.ctx, ast.Store):
            yield node.id
        elif isinstance(node, ast.ExceptHandler) and node.name:
            yield node.name


class Form(unittest.TestCase):
    def where(self, path, node):
        return f"{path.name}:{getattr(node, 'lineno', 0)}"

    def test_files(self):
        self.assertIn("__init__.py", [path.name for path in files()])
        for path in files():
            self.assertEqual(path.parent, ROOT)
            self.assertRegex(path.name, r"^[a-z0-9_]+\.py$")
            self.assertRegex(path.read_text(), r"^[ -~\n]*$")

    def test_sizes(self):
        for path in files():
            lines = path.read_text().split("\n")
            self.assertLessEqual(len(lines), 400)
            self.assertLessEqual(max(len(line) for line in lines), 120, path.name)
        for path, node in walked():
            if isinstance(node, ast.FunctionDef):
                self.assertLessEqual(node.end_lineno - node.lineno + 1, 40, self.where(path, node))

    def test_words_that_stand_nowhere(self):
        for path in files():
            self.assertIsNone(WORDS_NOT_USED.search(path.read_text()), path.name)

    def test_only_the_told_forms(self):
        for path, node in walked():
            where = self.where(path, node)
            self.assertIsInstance(node, NODES, where)
            self.assertNotIsInstance(node, (ast.Div, ast.MatMult), where)
            if isinstance(node, ast.Constant):
                self.assertNotIsInstance(node.value, (float, complex, bytes), where)
            if isinstance(node, ast.Assign):
                self.assertEqual(len(node.targets), 1, where)
                self.assertNotIsInstance(node.targets[0], (ast.Tuple, ast.List), where)
            if isinstance(node, (ast.For, ast.While)):
                self.assertEqual(node.orelse, [], where)
            if isinstance(node, ast.Try):
                self.assertEqual(node.finalbody, [], where)
            if isinstance(node, ast.ListComp):
                self.assertEqual(len(node.generators), 1, where)
                self.assertLessEqual(len(node.generators[0].ifs), 1, where)
            if isinstance(node, ast.FormattedValue):
                self.assertIsInstance(node.value, ast.Name, where)
                self.assertIsNone(node.format_spec, where)
            if isinstance(node, ast.Compare) and any(isinstance(op, (ast.Is, ast.IsNot)) for op in node.ops):
                self.assertIsInstance(node.comparators[0], ast.Constant, where)

    def test_imports(self):
        names = [path.stem for path in files()]
        for path, node in walked():
            if isinstance(node, ast.ImportFrom):
                self.assertEqual(node.level, 0, self.where(path, node))
                package, module = node.module.split(".")
                self.assertEqual(package, "stepledger")
                self.assertIn(module, names)

    def test_functions_and_classes_are_plain(self):
        for path, node in walked():
            where = self.where(path, node)
            if isinstance(node, (ast.FunctionDef, ast.ClassDef)):
                self.assertEqual(node.decorator_list, [], where)
            if isinstance(node, ast.arguments):
                self.assertEqual((node.posonlyargs, node.kwonlyargs, node.vararg, node.kwarg), ([], [], None, None))
            if isinstance(node, ast.ClassDef):
                self.assertLessEqual(len(node.bases), 1, where)
                for part in node.body:
                    self.assertIsInstance(part, (ast.FunctionDef, ast.Pass), where)

    def test_names(self):
        builtin = set(dir(builtins))
        for path in files():
            for name in bound_names(ast.parse(path.read_text())):
                if name not in TWO_UNDERSCORES:
                    self.assertRegex(name, r"^[A-Za-z][A-Za-z0-9_]*$", path.name)
                    self.assertNotIn(name, builtin, path.name)
        for path, node in walked():
            if isinstance(node, ast.Name) and node.id in builtin:
                self.assertIn(node.id, OWN_NAMES, self.where(path, node))

    def test_methods(self):
        own = set().union(*[method_names(tree) for tree in trees().values()])
        for path, node in walked():
            if isinstance(node, ast.Call) and isinstance(node.func, ast.Attribute):
                self.assertIn(node.func.attr, METHODS | own, self.where(path, node))

    def test_values_of_objects(self):
        pythons = set().union(*[dir(kind) for kind in (str, int, list, tuple, dict, set, bytes)]) | {"args"}
        methods = set().union(*[method_names(tree) for tree in trees().values()])
        for name, tree in trees().items():
            self.assertEqual(value_names(tree) & methods, set(), name)
            self.assertEqual(value_names(tree) & (pythons - VALUES_ALLOWED), set(), name)

    def test_names_that_are_not_used(self):
        for path, node in walked():
            for name in (getattr(node, "id", None), getattr(node, "attr", None)):
                self.assertNotIn(name, NAMES_NOT_USED, self.where(path, node))

    def test_each_name_once_at_a_file_s_top(self):
        for name, tree in trees().items():
            top = []
            for node in tree.body:
                if isinstance(node, ast.ImportFrom):
                    top += [alias.asname or alias.name for alias in node.names]
                elif isinstance(node, ast.Assign):
                    top.append(node.targets[0].id)
                elif not isinstance(node, ast.Expr):
                    top.append(node.name)
            self.assertEqual(sorted(set(top)), sorted(top), name)

    def test_no_local_is_called_like_a_class_or_an_import(self):
        for name, tree in trees().items():
            taken = {alias.name for node in ast.walk(tree) if isinstance(node, ast.ImportFrom) for alias in node.names}
            taken |= {node.name for node in tree.body if isinstance(node, ast.ClassDef)}
            for node in ast.walk(tree):
                if isinstance(node, ast.FunctionDef):
                    self.assertEqual(taken & set(bound_names(node)), set(), f"{name}: {node.name}")

    def test_each_import_is_from_the_file_that_defines_it(self):
        for name, tree in trees().items():
            for node in ast.walk(tree):
                if isinstance(node, ast.ImportFrom):
                    defined = defined_names(trees()[node.module.split(".")[1]])
                    for alias in node.names:
                        self.assertIn(alias.name, defined, name)

    def test_a_file_s_top(self):
        for name, tree in trees().items():
            self.assertIsNotNone(ast.get_docstring(tree), name)
            for node in tree.body[1:]:
                self.assertIsInstance(node, (ast.ImportFrom, ast.FunctionDef, ast.ClassDef, ast.Assign), name)
                if isinstance(node, ast.Assign):
                    value = ast.literal_eval(node.value)
                    inner = value.values() if isinstance(value, dict) else value if isinstance(value, list) else ()
                    self.assertFalse([part for part in inner if isinstance(part, (list, dict))], name)

    def test_lists_and_dicts_of_a_file_s_top_are_only_read(self):
        for name, tree in trees().items():
            around = parents(tree)
            for node in ast.walk(tree):
                if isinstance(node, ast.Name) and isinstance(node.ctx, ast.Load) and node.id in kept_names(tree):
                    use = around[node]
                    indexed = isinstance(use, ast.Subscript) and isinstance(use.ctx, ast.Load)
                    asked = isinstance(use, ast.Attribute) and use.attr in ("get", "items", "keys", "values")
                    self.assertTrue(isinstance(use, ast.Compare) or indexed or asked, f"{name}:{node.lineno}")

    def test_lists_and_dicts_of_a_file_s_top_stay_in_their_file(self):
        for name, tree in trees().items():
            for node in ast.walk(tree):
                if isinstance(node, ast.ImportFrom):
                    kept = kept_names(trees()[node.module.split(".")[1]])
                    self.assertEqual({alias.name for alias in node.names} & kept, set(), name)

    def test_keywords(self):
        own = set().union(*[defined_names(tree) for tree in trees().values()])
        for path, node in walked():
            if isinstance(node, ast.Call) and node.keywords and called_name(node) not in own:
                words = {word.arg for word in node.keywords}
                self.assertLessEqual(words, KEYWORDS.get(called_name(node), set()), self.where(path, node))

    def test_what_is_walked_on_the_spot(self):
        for name, tree in trees().items():
            around = parents(tree)
            for node in ast.walk(tree):
                if called_name(node) in WALKED_AT_ONCE:
                    use = around[node]
                    walk = isinstance(use, (ast.For, ast.comprehension)) and use.iter == node
                    self.assertTrue(walk or called_name(use) in WALKERS, f"{name}:{node.lineno}")

    def test_sets(self):
        for name, tree in trees().items():
            around = parents(tree)
            for node in ast.walk(tree):
                if isinstance(node, ast.Set) or called_name(node) in ("set", "frozenset"):
                    use = around[node]
                    self.assertTrue(
                        isinstance(use, ast.Compare) or called_name(use) in ("sorted", "len"), f"{name}:{node.lineno}"
                    )

    def test_numbers_and_texts(self):
        for path, node in walked():
            where = self.where(path, node)
            if isinstance(node, ast.BinOp) and isinstance(node.op, ast.Pow):
                self.assertIsInstance(node.right, ast.Constant, where)
            if isinstance(node, ast.Constant) and isinstance(node.value, str):
                self.assertNotIn("%", node.value, where)

    def test_errors_and_annotations(self):
        for path, node in walked():
            where = self.where(path, node)
            if isinstance(node, ast.Raise):
                self.assertIsInstance(node.exc, ast.Call, where)
            if isinstance(node, ast.ExceptHandler):
                self.assertIsInstance(node.type, ast.Name, where)
                self.assertNotIn(node.type.id, ("Exception", "TypeError"), where)
            if isinstance(node, ast.FunctionDef):
                self.assertIsNone(node.returns, where)
            if isinstance(node, ast.arg):
                self.assertIsNone(node.annotation, where)

    def test_what_an_init_gives_back(self):
        for path, node in walked():
            if isinstance(node, ast.FunctionDef) and node.name == "__init__":
                returns = [part for part in ast.walk(node) if isinstance(part, ast.Return)]
                self.assertEqual(returns, [], self.where(path, node))

    def test_no_two_files_draw_from_one_another(self):
        left = {name: drawn_from(tree) for name, tree in trees().items()}
        while left:
            free = [name for name in left if not left[name] & set(left)]
            self.assertNotEqual(free, [], sorted(left))
            for name in free:
                del left[name]


if __name__ == "__main__":
    unittest.main()
