"""The form of the code: rules of the language that a look at the files can tell."""

import ast
import builtins
import os
import re
import unittest
import warnings

TOP = os.path.dirname(os.path.dirname(os.path.abspath(__file__)))
PACKAGE = "rankedchains"
FOLDER = os.path.join(TOP, PACKAGE)

LIBRARY = {
    "heapq": {"heappush", "heappop", "heapify", "heapreplace", "heappushpop"},
    "math": {"gcd", "lcm", "isqrt", "comb", "perm", "factorial"},
    "itertools": {"product", "combinations", "permutations"},
}
BUILTINS = set(
    "len range enumerate zip min max sum abs sorted reversed int str bool list tuple dict set isinstance ord repr "
    "any all divmod ValueError KeyError LookupError RuntimeError NotImplemented iter next map".split()
)
METHODS = set(
    "append clear copy count endswith extend find get index insert isalnum isalpha isdigit islower isspace isupper "
    "items join keys ljust lower lstrip partition pop remove replace reverse rfind rjust rpartition rsplit rstrip "
    "setdefault split splitlines startswith strip update upper values zfill bit_length add discard".split()
)
BARRED = set(
    "register mro elements open input law version_info with_traceback add_note attrgetter breakpoint builtins compile "
    "copyright credits delattr dir eval exec exit gc getattr globals hasattr help id importlib license locals "
    "methodcaller os quit setattr super type vars sys format format_map".split()
)
BARRED_ATTRIBUTES = set(
    "items keys values pop update append clear extend insert remove reverse setdefault sort args encode decode hex "
    "fromhex format".split()
)
BARRED_WORDS = re.compile(
    r"\b(type|typing|typing_extensions|enum|Enum|IntEnum|StrEnum|Flag|IntFlag|Generic|Protocol|ABC|ABCMeta|"
    r"namedtuple|NamedTuple|TypedDict|TYPE_CHECKING|abstractmethod)\b|dataclass|overload|contextmanager"
)
STATEMENTS = (
    ast.Assign,
    ast.AugAssign,
    ast.If,
    ast.While,
    ast.For,
    ast.Return,
    ast.Break,
    ast.Continue,
    ast.Pass,
    ast.Raise,
    ast.Assert,
    ast.Delete,
    ast.Try,
    ast.Expr,
    ast.FunctionDef,
    ast.ClassDef,
    ast.ImportFrom,
)


def files():
    return sorted(os.listdir(FOLDER))


def text_of(name):
    with open(os.path.join(FOLDER, name), encoding="utf-8") as stream:
        return stream.read()


def trees():
    for name in files():
        if name.endswith(".py"):
            yield name, ast.parse(text_of(name))


def functions(tree):
    return [node for node in ast.walk(tree) if isinstance(node, ast.FunctionDef)]


def bound_names(tree):
    for node in ast.walk(tree):
        if isinstance(node, ast.Name) and isinstance(node.ctx, ast.Store):
            yield node, node.id
        if isinstance(node, ast.arg):
            yield node, node.arg
        if isinstance(node, (ast.FunctionDef, ast.ClassDef)):
            yield node, node.name
        if isinstance(node, ast.ExceptHandler) and node.name:
            yield node, node.name


class Files(unittest.TestCase):
    def test_names(self):
        for name in files():
            if name != "__pycache__":
                self.assertRegex(name, r"\A([a-z][a-z0-9_]*|__init__|__main__)\.py\Z")

    def test_sizes_and_characters(self):
        for name in files():
            if not name.endswith(".py"):
                continue
            text = text_of(name)
            self.assertRegex(text, r"\A[ -~\n]*\Z", name)
            self.assertLessEqual(len(text.split("\n")) - 1, 399, name)
            for line in text.split("\n"):
                self.assertLessEqual(len(line), 120, name)
                self.assertNotIn("_wall", line)
                self.assertEqual(line, line.rstrip())

    def test_functions_are_small(self):
        for name, tree in trees():
            for node in functions(tree):
                self.assertLessEqual(node.end_lineno - node.lineno + 1, 40, f"{name}: {node.name}")

    def test_python_has_nothing_to_warn_of(self):
        with warnings.catch_warnings():
            warnings.simplefilter("error")
            for name in files():
                if name.endswith(".py"):
                    compile(text_of(name), name, "exec")


class Statements(unittest.TestCase):
    def test_only_these(self):
        for name, tree in trees():
            for node in ast.walk(tree):
                if isinstance(node, ast.stmt):
                    self.assertIsInstance(node, STATEMENTS, f"{name}:{node.lineno}")
                if isinstance(node, (ast.FunctionDef, ast.ClassDef)):
                    self.assertEqual(node.decorator_list, [], f"{name}:{node.lineno}")
                if isinstance(node, (ast.FunctionDef, ast.arg)):
                    self.assertIsNone(getattr(node, "returns", None) or getattr(node, "annotation", None))
                if isinstance(node, ast.Expr):
                    docstring = isinstance(node.value, ast.Constant) and isinstance(node.value.value, str)
                    self.assertTrue(docstring or isinstance(node.value, ast.Call), f"{name}:{node.lineno}")

    def test_module_level(self):
        for name, tree in trees():
            bound = []
            for node in tree.body:
                if isinstance(node, ast.ImportFrom):
                    bound.extend(alias.name for alias in node.names)
                elif isinstance(node, (ast.FunctionDef, ast.ClassDef)):
                    bound.append(node.name)
                elif isinstance(node, ast.Assign):
                    self.assertEqual(len(node.targets), 1)
                    bound.append(node.targets[0].id)
                    for part in ast.walk(node.value):
                        self.assertNotIsInstance(part, (ast.Call, ast.ListComp, ast.Lambda, ast.Set), name)
                else:
                    self.assertIsInstance(node, ast.Expr)
                    self.assertIsInstance(node.value, ast.Constant)
            self.assertEqual(len(bound), len(set(bound)), name)

    def test_imports(self):
        defined = {}
        for name, tree in trees():
            defined[f"{PACKAGE}.{name[:-3]}"] = {
                node.name if hasattr(node, "name") else node.targets[0].id
                for node in tree.body
                if isinstance(node, (ast.FunctionDef, ast.ClassDef, ast.Assign))
            }
        for name, tree in trees():
            for node in ast.walk(tree):
                self.assertNotIsInstance(node, ast.Import)
                if isinstance(node, ast.ImportFrom):
                    self.assertEqual(node.level, 0)
                    due = LIBRARY.get(node.module, defined.get(node.module, set()))
                    for alias in node.names:
                        self.assertIn(alias.name, due, f"{name}: {node.module}")
                        self.assertIsNone(alias.asname)

    def test_what_is_imported_is_used(self):
        for name, tree in trees():
            used = {node.id for node in ast.walk(tree) if isinstance(node, ast.Name)}
            for node in tree.body:
                if isinstance(node, ast.ImportFrom):
                    for alias in node.names:
                        self.assertIn(alias.name, used, name)

    def test_no_two_files_import_from_each_other(self):
        ahead = {}
        for name, tree in trees():
            ahead[f"{PACKAGE}.{name[:-3]}"] = {node.module for node in tree.body if isinstance(node, ast.ImportFrom)}
        done = set()
        while ahead:
            ready = [name for name, needs in ahead.items() if not (needs & set(ahead)) - done]
            self.assertTrue(ready, sorted(ahead))
            for name in ready:
                done.add(name)
                del ahead[name]


class Names(unittest.TestCase):
    def test_bound_names(self):
        known = set(dir(builtins))
        for name, tree in trees():
            fixed = {node.name for node in tree.body if isinstance(node, ast.ClassDef)}
            for node in tree.body:
                if isinstance(node, ast.ImportFrom):
                    fixed |= {alias.name for alias in node.names}
            for node, bound in bound_names(tree):
                self.assertRegex(bound, r"\A(_|_?[A-Za-z][A-Za-z0-9_]*|__(init|eq|len|repr|str)__)\Z")
                self.assertNotIn(bound, BARRED, f"{name}:{node.lineno}")
                self.assertNotIn(bound, known, f"{name}:{node.lineno}")
                if not isinstance(node, ast.ClassDef):
                    self.assertNotIn(bound, fixed, f"{name}:{node.lineno}")

    def test_builtins_and_methods(self):
        known = set(dir(builtins))
        own = set()
        for _, tree in trees():
            own |= {node.name for node in functions(tree)}
            own |= {node.attr for node in ast.walk(tree) if isinstance(node, ast.Attribute)
                    and isinstance(node.ctx, ast.Store)}
        for name, tree in trees():
            for node in ast.walk(tree):
                if isinstance(node, ast.Name) and node.id in known:
                    self.assertIn(node.id, BUILTINS, f"{name}:{node.lineno}")
                if isinstance(node, ast.Attribute):
                    self.assertIn(node.attr, METHODS | own, f"{name}:{node.lineno}")

    def test_attributes(self):
        stored = {}
        methods = {}
        for name, tree in trees():
            for kind in [node for node in ast.walk(tree) if isinstance(node, ast.ClassDef)]:
                methods[kind.name] = {node.name for node in kind.body if isinstance(node, ast.FunctionDef)}
                stored[kind.name] = {
                    node.attr
                    for node in ast.walk(kind)
                    if isinstance(node, ast.Attribute) and isinstance(node.ctx, ast.Store)
                }
            for node in ast.walk(tree):
                if isinstance(node, ast.Attribute) and isinstance(node.ctx, ast.Store):
                    self.assertNotIn(node.attr, BARRED_ATTRIBUTES | BARRED, f"{name}:{node.lineno}")
        # So none is a method in one class and an attribute in another one, either.
        self.assertEqual(set().union(*stored.values()) & set().union(*methods.values()), set())

    def test_the_library_is_called_by_bare_names(self):
        for name, tree in trees():
            own = {
                alias.name
                for node in tree.body
                if isinstance(node, ast.ImportFrom) and node.module in LIBRARY
                for alias in node.names
            }
            called = {id(node.func) for node in ast.walk(tree) if isinstance(node, ast.Call) and not node.keywords}
            for node in ast.walk(tree):
                if isinstance(node, ast.Name) and node.id in own:
                    self.assertIn(id(node), called, f"{name}:{node.lineno}")

    def test_stars_in_calls_stand_over_names(self):
        for name, tree in trees():
            for node in ast.walk(tree):
                if isinstance(node, ast.Call):
                    for part in node.args:
                        if isinstance(part, ast.Starred):
                            self.assertIsInstance(part.value, (ast.Name, ast.Attribute), f"{name}:{node.lineno}")

    def test_names_that_are_read_are_bound(self):
        for name, tree in trees():
            bound = {found for _, found in bound_names(tree)} | BUILTINS
            for node in tree.body:
                if isinstance(node, ast.ImportFrom):
                    bound |= {alias.name for alias in node.names}
            for node in ast.walk(tree):
                if isinstance(node, ast.Name):
                    self.assertIn(node.id, bound, f"{name}:{node.lineno}")
                    if node.id == "_":
                        self.assertIsInstance(node.ctx, ast.Store, f"{name}:{node.lineno}")


class Values(unittest.TestCase):
    def test_literals_and_signs(self):
        for name, tree in trees():
            docstrings = {
                id(node.body[0].value)
                for node in ast.walk(tree)
                if isinstance(node, (ast.Module, ast.FunctionDef, ast.ClassDef)) and isinstance(node.body[0], ast.Expr)
            }
            for node in ast.walk(tree):
                where = f"{name}:{getattr(node, 'lineno', 0)}"
                self.assertNotIsInstance(node, (ast.Div, ast.MatMult, ast.Set, ast.Await, ast.NamedExpr), where)
                if isinstance(node, ast.Constant):
                    self.assertNotIsInstance(node.value, (float, complex), where)
                    if isinstance(node.value, str):
                        self.assertNotIn("%", node.value, where)
                        self.assertNotIn("__", node.value, where)
                        if id(node) not in docstrings:
                            self.assertNotRegex(node.value, BARRED_WORDS, where)
                if isinstance(node, ast.BinOp) and isinstance(node.op, ast.Pow):
                    self.assertIsInstance(node.right, ast.Constant, where)
                if isinstance(node, ast.Compare):
                    for sign, side in zip(node.ops, node.comparators):
                        if isinstance(sign, (ast.Is, ast.IsNot)):
                            self.assertIsInstance(side, ast.Constant, where)

    def test_generators_are_lists(self):
        for name, tree in trees():
            for node in ast.walk(tree):
                self.assertNotIsInstance(node, (ast.GeneratorExp, ast.Yield, ast.YieldFrom), name)

    def test_sets_are_only_sorted_or_counted(self):
        for name, tree in trees():
            free = set()
            for node in ast.walk(tree):
                if isinstance(node, ast.Call) and getattr(node.func, "id", "") in ("sorted", "len"):
                    free |= {id(part) for part in node.args}
                if isinstance(node, ast.Compare):
                    free |= {id(part) for part in [node.left, *node.comparators]}
            for node in ast.walk(tree):
                made = isinstance(node, ast.Call) and getattr(node.func, "id", "") in ("set", "frozenset")
                if made or isinstance(node, ast.SetComp):
                    self.assertIn(id(node), free, f"{name}:{node.lineno}")

    def test_names_of_errors_are_their_own(self):
        for name, tree in trees():
            for node in functions(tree):
                caught = [part.name for part in ast.walk(node) if isinstance(part, ast.ExceptHandler) and part.name]
                stored = {part.id for part in ast.walk(node) if isinstance(part, ast.Name) and isinstance(part.ctx, ast.Store)}
                self.assertEqual(len(caught), len(set(caught)), f"{name}: {node.name}")
                self.assertEqual(set(caught) & (stored | {part.arg for part in node.args.args}), set())

    def test_what_is_done_at_last_is_simple(self):
        simple = (ast.Name, ast.Attribute, ast.Constant, ast.Tuple, ast.List, ast.Load, ast.Store)
        for name, tree in trees():
            for node in ast.walk(tree):
                for last in node.finalbody if isinstance(node, ast.Try) else []:
                    where = f"{name}:{last.lineno}"
                    if isinstance(last, ast.Assign):
                        parts = [last.targets[0], last.value]
                    else:
                        self.assertIsInstance(last, ast.Expr, where)
                        self.assertEqual(last.value.func.attr, "append", where)
                        parts = last.value.args
                    for part in parts:
                        for inner in ast.walk(part):
                            self.assertIsInstance(inner, simple, where)

    def test_what_is_caught(self):
        for name, tree in trees():
            for node in ast.walk(tree):
                if isinstance(node, ast.ExceptHandler):
                    self.assertIsInstance(node.type, ast.Name, name)
                    self.assertNotIn(node.type.id, ("Exception", "ValueError", "LookupError", "IndexError", "TypeError"))


if __name__ == "__main__":
    unittest.main()
