"""The rules of the language that can be seen in the files of the package: lengths, characters, names and more."""

import ast
import builtins
import pathlib
import re
import unittest

PACKAGE = pathlib.Path(__file__).resolve().parent.parent / "oddlamps"
FILES = sorted(PACKAGE.rglob("*.py"))
TREES = {path: ast.parse(path.read_text(encoding="ascii")) for path in FILES}

PLAIN_NAME = re.compile(r"_?[A-Za-z][A-Za-z0-9_]*\Z|_\Z")
DUNDERS = {"__init__", "__eq__", "__repr__", "__str__", "__len__", "__enter__", "__exit__", "__call__", "__iter__"}
BARRED_BEGINNINGS = ("_wall", "_pe_", "_dcw_", "_enum_", "_cm_", "_twin_re_", "_lay_", "_law_", "_stub_", "_sre",
                     "_WallAttr")
BARRED_NAMES = {"register", "mro", "elements", "open", "input", "law", "version_info", "with_traceback", "add_note"}
BARRED_WORDS = re.compile(r"dataclass|overload|contextmanager|\b(?:typing|enum|Enum|Generic|Protocol|ABC|namedtuple|"
                          r"NamedTuple|TypedDict|abstractmethod)\b")
BUILTINS = set(
    "len range enumerate zip min max sum abs sorted reversed int str bool bytes list tuple dict set frozenset "
    "isinstance ord chr repr any all divmod pow getattr hasattr setattr iter next map Exception ValueError TypeError "
    "KeyError IndexError LookupError ZeroDivisionError ArithmeticError OverflowError RuntimeError "
    "NotImplementedError AttributeError StopIteration NotImplemented".split())
METHODS = set(
    "append clear copy count endswith extend find get index insert isalnum isalpha isdigit islower isspace isupper "
    "items join keys ljust lower lstrip partition pop remove replace reverse rfind rjust rpartition rsplit rstrip "
    "setdefault split splitlines startswith strip update upper values zfill bit_length add discard isdecimal".split())
LIBRARY = {"heapq": {"heappush", "heappop", "heapify", "heapreplace", "heappushpop"},
           "math": {"gcd", "lcm", "isqrt", "comb", "perm", "factorial"},
           "itertools": {"product", "combinations", "permutations", "chain", "accumulate", "pairwise", "islice",
                         "zip_longest"}, "collections": {"defaultdict"}}
AT_ONCE = {"range", "zip", "enumerate", "reversed", "combinations", "product", "permutations"}
TAKERS = {"list", "tuple", "dict", "sorted", "sum", "any", "all", "enumerate", "zip", "min", "max", "combinations"}
CHANGING = {"append", "clear", "extend", "insert", "pop", "remove", "reverse", "setdefault", "update"}
STATEMENTS = (ast.FunctionDef, ast.Return, ast.Assign, ast.AugAssign, ast.AnnAssign, ast.For, ast.While, ast.If,
              ast.Raise, ast.Try, ast.Assert, ast.Delete, ast.Nonlocal, ast.Pass, ast.Break, ast.Continue, ast.Expr,
              ast.With, ast.Match)


def functions(tree):
    return [node for node in ast.walk(tree) if isinstance(node, ast.FunctionDef)]


def parameters(function):
    told = function.args
    return [arg.arg for arg in told.posonlyargs + told.args + told.kwonlyargs]


def bound_names(tree):
    """Return each name that a file binds, with its line."""
    names = []
    for node in ast.walk(tree):
        if isinstance(node, ast.Name) and not isinstance(node.ctx, ast.Load):
            names.append((node.id, node.lineno))
        if isinstance(node, (ast.FunctionDef, ast.ClassDef)):
            names.append((node.name, node.lineno))
        if isinstance(node, ast.arg):
            names.append((node.arg, node.lineno))
        if isinstance(node, ast.Attribute) and not isinstance(node.ctx, ast.Load):
            names.append((node.attr, node.lineno))
    return names


def called_name(node):
    if isinstance(node, ast.Call):
        return node.func.id if isinstance(node.func, ast.Name) else getattr(node.func, "attr", None)
    return None


def iterated_places(tree):
    """Return the nodes that stand where something is iterated at once."""
    places = []
    for node in ast.walk(tree):
        if isinstance(node, (ast.For, ast.comprehension)):
            places.append(node.iter)
        name = called_name(node)
        if name in TAKERS or name == "join":
            places.extend(node.args[:1] if name != "zip" else node.args)
        if name in ("len", "reversed") and called_name(node.args[0]) == "range":
            places.append(node.args[0])
    return places


class Files(unittest.TestCase):
    def test_folder(self):
        self.assertIn(PACKAGE / "__init__.py", FILES)
        for path in PACKAGE.rglob("*"):
            if "__pycache__" not in path.parts:
                self.assertRegex(path.name, r"\A[a-z_][a-z0-9_]*\.py\Z")

    def test_lengths(self):
        for path in FILES:
            lines = path.read_text(encoding="ascii").split("\n")
            self.assertLessEqual(len(lines) - 1, 399, path)
            for at, line in enumerate(lines):
                self.assertLessEqual(len(line), 120, (path, at + 1))
            for function in functions(TREES[path]):
                self.assertLessEqual(function.end_lineno - function.lineno + 1, 40, (path, function.name))

    def test_characters(self):
        for path in FILES:
            for sign in path.read_bytes():
                self.assertTrue(sign == 10 or 32 <= sign <= 126, (path, sign))

    def test_names(self):
        for path in FILES:
            for name, line in bound_names(TREES[path]):
                if name in DUNDERS:
                    continue
                self.assertRegex(name, PLAIN_NAME, (path, line))
                self.assertFalse(name.startswith(BARRED_BEGINNINGS), (path, line, name))
                self.assertNotIn(name, BARRED_NAMES, (path, line))
                self.assertFalse(hasattr(builtins, name), (path, line, name))
            self.assertNotRegex(path.read_text(encoding="ascii"), "_wall|_WallAttr")
            self.assertNotRegex(path.read_text(encoding="ascii"), BARRED_WORDS)
            loads = [node for node in ast.walk(TREES[path]) if isinstance(node, ast.Name) and node.id == "_"]
            self.assertFalse([node.lineno for node in loads if isinstance(node.ctx, ast.Load)], path)


class Rules(unittest.TestCase):
    def each_node(self):
        for path in FILES:
            for node in ast.walk(TREES[path]):
                yield (path.name, getattr(node, "lineno", None)), node

    def test_imports(self):
        for path in FILES:
            for node in ast.walk(TREES[path]):
                self.assertNotIsInstance(node, ast.Import)
                if isinstance(node, ast.ImportFrom):
                    self.assertIn(node, TREES[path].body)
                    names = {alias.name for alias in node.names}
                    self.assertEqual([alias.asname for alias in node.names], [None] * len(node.names))
                    if node.module in LIBRARY:
                        self.assertLessEqual(names, LIBRARY[node.module])
                        continue
                    self.assertTrue(node.module.startswith("oddlamps."), node.module)
                    source = TREES[PACKAGE / (node.module.split(".")[1] + ".py")]
                    self.assertLessEqual(names, {name for name, _ in bound_names(source)})

    def test_imports_are_used_and_go_round_nowhere(self):
        needs = {}
        for path in FILES:
            used = {node.id for node in ast.walk(TREES[path]) if isinstance(node, ast.Name)}
            from_files = [node for node in TREES[path].body if isinstance(node, ast.ImportFrom)]
            for node in from_files:
                self.assertLessEqual({alias.name for alias in node.names}, used, (path, node.module))
            needs[path.stem] = [node.module.split(".")[1] for node in from_files if "." in node.module]
        while needs:
            ripe = [name for name in needs if not [other for other in needs[name] if other in needs]]
            self.assertTrue(ripe, needs)
            for name in ripe:
                del needs[name]

    def test_module_level(self):
        for path in FILES:
            bound = []
            for node in TREES[path].body:
                if isinstance(node, ast.Expr):
                    self.assertIsInstance(node.value, ast.Constant)
                elif isinstance(node, ast.Assign):
                    self.assertEqual(len(node.targets), 1)
                    bound.append(node.targets[0].id)
                elif isinstance(node, ast.ImportFrom):
                    bound.extend(alias.name for alias in node.names)
                else:
                    self.assertIsInstance(node, (ast.FunctionDef, ast.ClassDef))
                    bound.append(node.name)
            self.assertEqual(len(bound), len(set(bound)), path)

    def test_locals_have_no_names_of_imports_classes_or_functions(self):
        for path in FILES:
            tree = TREES[path]
            taken = {alias.name for node in tree.body if isinstance(node, ast.ImportFrom) for alias in node.names}
            taken |= {node.name for node in tree.body if isinstance(node, (ast.ClassDef, ast.FunctionDef))}
            for function in functions(tree):
                names = {name for node in function.body for name, _ in bound_names(node)} | set(parameters(function))
                self.assertFalse(names & taken, (path, function.name))

    def test_builtins_and_methods(self):
        own = {function.name for path in FILES for function in functions(TREES[path])}
        for path in FILES:
            known = {name for name, _ in bound_names(TREES[path])}
            for node in TREES[path].body:
                known |= {alias.name for alias in node.names} if isinstance(node, ast.ImportFrom) else set()
            for node in ast.walk(TREES[path]):
                if isinstance(node, ast.Name) and node.id not in known:
                    self.assertIn(node.id, BUILTINS, (path, node.lineno))
                if isinstance(node, ast.Call) and isinstance(node.func, ast.Attribute):
                    self.assertIn(node.func.attr, METHODS | own, (path, node.lineno))

    def test_functions_and_classes(self):
        for where, node in self.each_node():
            if isinstance(node, ast.FunctionDef):
                self.assertFalse(node.decorator_list, where)
                if node.name.startswith("__"):
                    self.assertIn(node.name, DUNDERS, where)
                for statement in node.body:
                    self.assertIsInstance(statement, STATEMENTS, where)
            if isinstance(node, ast.ClassDef):
                self.assertFalse(node.decorator_list or node.keywords, where)

    def test_expressions(self):
        barred = (ast.Div, ast.GeneratorExp, ast.Yield, ast.YieldFrom, ast.Await, ast.Global, ast.Lambda, ast.Pow,
                  ast.NamedExpr, ast.JoinedStr, ast.MatMult)
        for where, node in self.each_node():
            self.assertNotIsInstance(node, barred, where)
            if isinstance(node, ast.Constant):
                self.assertNotIsInstance(node.value, (float, complex, bytes), where)
                if isinstance(node.value, str):
                    self.assertNotIn("%", node.value, where)
            if isinstance(node, ast.Compare) and any(isinstance(sign, (ast.Is, ast.IsNot)) for sign in node.ops):
                self.assertIn(getattr(node.comparators[0], "value", "other"), (None, True, False), where)

    def test_iterated_at_once(self):
        for path in FILES:
            places = iterated_places(TREES[path])
            for node in ast.walk(TREES[path]):
                name = called_name(node)
                if name in AT_ONCE or name in ("items", "keys", "values"):
                    self.assertIn(node, places, (path, node.lineno))
                if name == "reversed":
                    self.assertNotIn(called_name(node.args[0]), ("zip", "enumerate", "items", "keys", "values"))

    def test_sets_are_not_kept(self):
        for path in FILES:
            allowed = []
            for node in ast.walk(TREES[path]):
                if called_name(node) in ("sorted", "len"):
                    allowed.extend(node.args)
            for node in ast.walk(TREES[path]):
                if called_name(node) in ("set", "frozenset") or isinstance(node, (ast.Set, ast.SetComp)):
                    self.assertIn(node, allowed, (path, node.lineno))

    def test_loops_do_not_change_what_they_go_over(self):
        for where, node in self.each_node():
            if isinstance(node, ast.For):
                over = {name.id for name in ast.walk(node.iter) if isinstance(name, ast.Name)}
                for inner in node.body:
                    for call in ast.walk(inner):
                        if isinstance(call, ast.Call) and isinstance(call.func, ast.Attribute):
                            held = getattr(call.func.value, "id", None)
                            changes = call.func.attr in CHANGING
                            self.assertFalse(changes and held in over, where)
                        if isinstance(call, (ast.Subscript, ast.Name)) and isinstance(call.ctx, (ast.Store, ast.Del)):
                            held = getattr(getattr(call, "value", call), "id", None)
                            self.assertNotIn(held, over, where)


if __name__ == "__main__":
    unittest.main()
