"""The files of the package keep to the rules of the language, as far as a look at their trees tells."""

import ast
import builtins
import pathlib
import re
import unittest

FOLDER = pathlib.Path(__file__).resolve().parent.parent / "changedsame"

BUILTINS = set(
    "len range enumerate zip min max sum abs sorted reversed int str bool bytes list tuple dict set frozenset "
    "isinstance ord repr any all divmod pow Exception ValueError TypeError KeyError IndexError LookupError "
    "ZeroDivisionError ArithmeticError OverflowError RuntimeError NotImplementedError AttributeError "
    "StopIteration NotImplemented property classmethod".split()
)
METHODS = set(
    "append clear copy count endswith extend find get index insert isalnum isalpha isdigit islower isspace isupper "
    "items join keys ljust lower lstrip partition pop remove replace reverse rfind rjust rpartition rsplit rstrip "
    "setdefault split splitlines startswith strip update upper values zfill bit_length isascii".split()
)
BARRED = set(
    "register mro elements open input law version_info with_traceback add_note attrgetter breakpoint builtins "
    "compile copyright credits delattr dir eval exec exit gc getattr globals hasattr help id importlib license "
    "locals methodcaller os quit setattr super type vars sys".split()
)
BARRED_WORDS = set(
    "typing typing_extensions enum Enum IntEnum StrEnum Flag IntFlag Generic Protocol ABC ABCMeta namedtuple "
    "NamedTuple TypedDict TYPE_CHECKING abstractmethod".split()
)
# The name _ is there once an example has run.
ALL_BUILTINS = set(dir(builtins)) - {"_"}
DUNDERS = {"__init__", "__eq__", "__repr__", "__str__", "__len__", "__call__", "__iter__", "__contains__", "__getitem__"}
STATEMENTS = (
    ast.Assign, ast.AugAssign, ast.If, ast.While, ast.For, ast.Return, ast.Break, ast.Continue, ast.Pass, ast.Raise,
    ast.Delete, ast.Try, ast.Expr, ast.FunctionDef,
)
BARRED_NODES = (
    ast.GeneratorExp, ast.Set, ast.SetComp, ast.Yield, ast.YieldFrom, ast.Global, ast.Nonlocal, ast.Await,
    ast.AsyncFunctionDef, ast.With, ast.Match, ast.Lambda, ast.AnnAssign, ast.NamedExpr, ast.Starred, ast.Div,
)


def sources():
    return {path: path.read_text() for path in sorted(FOLDER.rglob("*.py"))}


def is_plain(node, functions):
    if isinstance(node, ast.Constant):
        return not isinstance(node.value, float)
    if isinstance(node, ast.UnaryOp) and isinstance(node.op, ast.USub):
        return isinstance(node.operand, ast.Constant)
    if isinstance(node, ast.Name):
        return node.id in functions
    if isinstance(node, (ast.Tuple, ast.List)):
        return all(is_plain(part, functions) for part in node.elts)
    if isinstance(node, ast.Dict):
        return all(is_plain(part, functions) for part in node.keys + node.values)
    return False


def own_names(function):
    """The parameters and the variables that a function assigns."""
    names = [arg.arg for arg in function.args.args]
    for node in ast.walk(function):
        if isinstance(node, ast.Name) and isinstance(node.ctx, ast.Store):
            names.append(node.id)
        if isinstance(node, ast.ExceptHandler) and node.name:
            names.append(node.name)
    return names


class TestLanguage(unittest.TestCase):
    def setUp(self):
        self.files = sources()
        self.trees = {path: ast.parse(text) for path, text in self.files.items()}

    def test_files(self):
        names = [path for path in FOLDER.rglob("*") if "__pycache__" not in path.parts]
        self.assertEqual(sorted(names), sorted(self.files))
        self.assertLessEqual(len(names), 100)
        for path in names:
            self.assertRegex(path.stem, r"^(__init__|[a-z][a-z0-9]*)$")
            self.assertNotIn(path.stem, ALL_BUILTINS)

    def test_lines_and_characters(self):
        for path, text in self.files.items():
            lines = text.split("\n")
            self.assertLessEqual(len(lines), 399, path)
            for number, line in enumerate(lines):
                self.assertLessEqual(len(line), 120, (path, number + 1))
            self.assertIsNone(re.search(r"[^ -~\n]", text), path)
            words = set(re.findall(r"\w+", text))
            self.assertFalse(words & BARRED_WORDS, (path, words & BARRED_WORDS))
            self.assertNotRegex(text, r"dataclass|overload|contextmanager|_wall|__slots__")

    def test_functions_are_short(self):
        for path, tree in self.trees.items():
            for node in ast.walk(tree):
                if isinstance(node, ast.FunctionDef):
                    self.assertLessEqual(node.end_lineno - node.lineno + 1, 40, (path, node.name))
                    decorators = [part.id for part in node.decorator_list]
                    self.assertIn(decorators, ([], ["property"], ["classmethod"]), (path, node.name))
                    self.assertIsNone(node.args.kwarg)
                    self.assertTrue(node.args.vararg is None or node.args.args[0].arg == "self")
                    self.assertFalse(node.args.kwonlyargs or node.args.posonlyargs or node.returns)

    def test_module_level(self):
        for path, tree in self.trees.items():
            functions = set()
            bound = []
            for node in tree.body:
                where = (path, node.lineno)
                if isinstance(node, ast.ImportFrom):
                    self.assertTrue(node.module.startswith("changedsame."), where)
                    self.assertEqual(node.level, 0)
                    for alias in node.names:
                        self.assertIsNone(alias.asname)
                        self.assertNotEqual(alias.name, "*")
                        bound.append(alias.name)
                elif isinstance(node, ast.Assign):
                    self.assertTrue(len(node.targets) == 1 and isinstance(node.targets[0], ast.Name), where)
                    self.assertTrue(is_plain(node.value, functions), where)
                    self.assertFalse(self.has_inner_list(node.value), where)
                    bound.append(node.targets[0].id)
                elif isinstance(node, (ast.FunctionDef, ast.ClassDef)):
                    functions.add(node.name)
                    bound.append(node.name)
                else:
                    self.assertTrue(isinstance(node, ast.Expr) and isinstance(node.value, ast.Constant), where)
            self.assertEqual(len(bound), len(set(bound)), path)
            for name in bound:
                self.assertNotIn(name, ALL_BUILTINS | BARRED, path)

    def has_inner_list(self, value):
        return any(isinstance(node, (ast.List, ast.Dict)) for node in ast.walk(value) if node is not value)

    def test_imports_name_the_defining_file_and_make_no_ring(self):
        modules = {path.stem: tree for path, tree in self.trees.items()}
        leads = {}
        for stem, tree in modules.items():
            leads[stem] = set()
            used = {node.id for node in ast.walk(tree) if isinstance(node, ast.Name)}
            for node in tree.body:
                if isinstance(node, ast.ImportFrom):
                    source = node.module.split(".")[1]
                    leads[stem].add(source)
                    for alias in node.names:
                        self.assertIn(alias.name, self.defined(modules[source]), (stem, alias.name))
                        self.assertIn(alias.name, used, (stem, alias.name))
        for stem in leads:
            reached = set(leads[stem])
            while True:
                further = reached | {other for name in reached for other in leads[name]}
                if further == reached:
                    break
                reached = further
            self.assertNotIn(stem, reached)

    def defined(self, tree):
        names = set()
        for node in tree.body:
            if isinstance(node, (ast.FunctionDef, ast.ClassDef)):
                names.add(node.name)
            if isinstance(node, ast.Assign):
                names.add(node.targets[0].id)
        return names

    def test_local_names(self):
        for path, tree in self.trees.items():
            taken = ALL_BUILTINS | BARRED
            tables = set()
            for node in tree.body:
                if isinstance(node, ast.ImportFrom):
                    taken |= {alias.name for alias in node.names}
                if isinstance(node, ast.ClassDef):
                    taken.add(node.name)
                if isinstance(node, ast.Assign):
                    tables.add(node.targets[0].id)
            for node in ast.walk(tree):
                if isinstance(node, ast.FunctionDef):
                    for name in own_names(node):
                        self.assertNotIn(name, taken | tables, (path, node.name))
                        self.assertNotRegex(name, r"^__|^_.|[^A-Za-z0-9_]", (path, node.name))
                    loads = [n for n in ast.walk(node) if isinstance(n, ast.Name) and isinstance(n.ctx, ast.Load)]
                    self.assertNotIn("_", [n.id for n in loads], (path, node.name))

    def test_nodes_and_statements(self):
        for path, tree in self.trees.items():
            for node in ast.walk(tree):
                where = (path, getattr(node, "lineno", 0))
                self.assertNotIsInstance(node, BARRED_NODES, where)
                if isinstance(node, ast.FunctionDef):
                    for inner in ast.walk(node):
                        if isinstance(inner, ast.stmt):
                            self.assertIsInstance(inner, STATEMENTS, where)
                if isinstance(node, ast.Compare):
                    for op, side in zip(node.ops, node.comparators):
                        if isinstance(op, (ast.Is, ast.IsNot)):
                            self.assertTrue(isinstance(side, ast.Constant) and side.value in (None, True, False), where)
                if isinstance(node, ast.Constant) and isinstance(node.value, str):
                    self.assertNotIn(chr(37), node.value, where)
                if isinstance(node, ast.ExceptHandler):
                    self.assertIsNotNone(node.type, where)

    def test_calls(self):
        own = set()
        for tree in self.trees.values():
            for node in ast.walk(tree):
                if isinstance(node, ast.FunctionDef):
                    own.add(node.name)
        for path, tree in self.trees.items():
            for node in ast.walk(tree):
                if isinstance(node, ast.Name) and node.id in ALL_BUILTINS:
                    self.assertIn(node.id, BUILTINS, (path, node.lineno))
                if isinstance(node, ast.Call):
                    if not (isinstance(node.func, ast.Name) and node.func.id == "sorted"):
                        self.assertFalse(node.keywords, (path, node.lineno))
                    self.assertFalse([word.arg for word in node.keywords if word.arg != "key"], (path, node.lineno))
                    if isinstance(node.func, ast.Attribute):
                        self.assertIn(node.func.attr, METHODS | own, (path, node.lineno))

    def test_views_are_iterated_at_once(self):
        words = {"zip", "enumerate", "range", "reversed"}
        takers = {"list", "tuple", "dict", "sorted", "sum", "enumerate", "zip"}
        for path, tree in self.trees.items():
            fine = set()
            for node in ast.walk(tree):
                if isinstance(node, (ast.For, ast.comprehension)):
                    fine.add(node.iter)
                if isinstance(node, ast.Call) and isinstance(node.func, ast.Name) and node.func.id in takers:
                    fine.update(node.args[:1])
            for node in ast.walk(tree):
                if isinstance(node, ast.Call) and isinstance(node.func, ast.Name) and node.func.id in words:
                    self.assertIn(node, fine, (path, node.lineno))

    def test_classes(self):
        methods, attributes = set(), set()
        for path, tree in self.trees.items():
            for node in ast.walk(tree):
                if isinstance(node, ast.ClassDef):
                    self.assertFalse(node.decorator_list or node.keywords)
                    methods |= {part.name for part in node.body if isinstance(part, ast.FunctionDef)}
                if isinstance(node, ast.Attribute) and isinstance(node.ctx, ast.Store):
                    attributes.add(node.attr)
        self.assertFalse(methods & attributes)
        self.assertFalse({name for name in methods if name.startswith("__")} - DUNDERS)
        of_builtins = set()
        for kind in (str, int, list, tuple, dict, set, frozenset, bytes):
            of_builtins |= {name for name in dir(kind) if not name.startswith("__")}
        self.assertFalse(((methods - {"copy"}) | attributes) & (of_builtins | BARRED))

    def test_operators_change_nothing(self):
        for path, tree in self.trees.items():
            self.assertNotRegex(self.files[path], r"\(type\)|Meta|metaclass=", path)
            for node in ast.walk(tree):
                if isinstance(node, ast.ClassDef):
                    told = {part.name: part for part in node.body if isinstance(part, ast.FunctionDef)}
                    if "__getitem__" in told:
                        self.assertEqual(ast.unparse(told["__iter__"].body[0])[:16], "raise TypeError(")
                    for name in ("__getitem__", "__contains__", "__len__", "__eq__"):
                        inner = list(ast.walk(told[name])) if name in told else []
                        self.assertFalse([part for part in inner if isinstance(part, (ast.Assign, ast.AugAssign, ast.Delete))])
                        calls = [ast.unparse(part.func) for part in inner if isinstance(part, ast.Call)]
                        self.assertLessEqual(set(calls), {"isinstance", "len", "UnknownName"}, (path, name))

    def test_each_loop_leaves_what_it_goes_over(self):
        changing = {"append", "clear", "extend", "insert", "pop", "remove", "reverse", "setdefault", "update"}
        for path, tree in self.trees.items():
            for node in ast.walk(tree):
                if isinstance(node, ast.For):
                    over = {ast.unparse(part) for part in ast.walk(node.iter) if isinstance(part, ast.Name)}
                    for inner in node.body:
                        for call in ast.walk(inner):
                            if isinstance(call, ast.Call) and isinstance(call.func, ast.Attribute):
                                if call.func.attr in changing and ast.unparse(call.func.value) in over:
                                    self.fail((path, call.lineno))


if __name__ == "__main__":
    unittest.main()
