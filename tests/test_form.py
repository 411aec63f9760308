"""The form of the code: the rules that can be seen in the files of the package by themselves.

The numbers are those of the rules for the Python subset of this program. What these checks do
not see is still required.
"""

import ast
import builtins
import re
import unittest
from pathlib import Path

FOLDER = Path(__file__).resolve().parent.parent / "jointdraws"
LIBRARY = {"math": {"gcd", "lcm", "isqrt", "comb", "perm", "factorial"},
           "itertools": {"product", "combinations", "permutations", "chain", "accumulate", "pairwise", "islice", "zip_longest"},
           "heapq": {"heappush", "heappop", "heapify", "heapreplace", "heappushpop"},
           "collections": {"defaultdict", "deque"},
           "__future__": {"annotations"}}
BUILTINS = set("""len range enumerate zip min max sum abs sorted reversed int str bool list tuple dict set frozenset
    isinstance ord repr any all divmod pow getattr hasattr setattr map iter next property staticmethod classmethod super
    Exception ValueError TypeError KeyError IndexError LookupError ZeroDivisionError ArithmeticError OverflowError
    RuntimeError NotImplementedError AttributeError StopIteration NotImplemented object""".split())
OPERATORS = "add sub mul floordiv mod pow and or xor lshift rshift".split()
METHODS = {f"__{name}__" for name in (
    "init eq repr str len enter exit call iter lt le gt ge ne neg pos invert abs bool contains getitem setitem".split()
    + OPERATORS + ["r" + name for name in OPERATORS if name != "pow"] + ["i" + name for name in OPERATORS])}
NEVER = {"register", "mro", "elements", "open", "input", "law", "version_info", "with_traceback", "add_note"}
NOT_BOUND = {"attrgetter", "breakpoint", "compile", "copyright", "credits", "delattr", "dir", "eval", "exec", "exit", "gc",
             "globals", "help", "id", "importlib", "license", "locals", "methodcaller", "os", "quit", "vars", "sys", "type"}
WORDS = {"type", "typing", "typing_extensions", "enum", "Enum", "IntEnum", "StrEnum", "Flag", "IntFlag", "Generic", "Protocol",
         "ABC", "ABCMeta", "namedtuple", "NamedTuple", "TypedDict", "TYPE_CHECKING", "abstractmethod", "dataclass", "overload",
         "contextmanager"}
TAKEN = {name for kind in (str, int, list, dict, set, bytes) for name in dir(kind) if not name.startswith("__")}
FREE_METHODS = set("""append clear copy count endswith extend find get index insert isalnum isalpha isdigit islower isspace
    isupper items join keys ljust lower lstrip partition pop remove replace reverse rfind rjust rpartition rsplit rstrip
    setdefault split splitlines startswith strip update upper values zfill bit_length add discard""".split())
FREE_ATTRIBUTES = set("count index title find get join lower upper split strip copy add".split())
LISTS_ONLY = {"any", "all", "sum", "min", "max", "sorted"}
NODES = (ast.AsyncFunctionDef, ast.AsyncFor, ast.AsyncWith, ast.Await, ast.Div, ast.MatMult)


def sources():
    return sorted(FOLDER.rglob("*.py"))


def trees():
    return [(path.name, ast.parse(path.read_text())) for path in sources()]


def docstrings(tree):
    found = set()
    for node in ast.walk(tree):
        if isinstance(node, (ast.Module, ast.ClassDef, ast.FunctionDef)) and ast.get_docstring(node, clean=False) is not None:
            found.add(id(node.body[0].value))
    return found


def bound_names(tree):
    """Names of variables, functions, classes, imports and parameters, with their nodes."""
    inside = {id(item) for node in ast.walk(tree) if isinstance(node, ast.ClassDef) for item in node.body}
    for node in ast.walk(tree):
        if isinstance(node, ast.Name) and not isinstance(node.ctx, ast.Load):
            yield node.id, node
        elif isinstance(node, ast.arg):
            yield node.arg, node
        elif isinstance(node, ast.alias):
            yield node.asname or node.name, node
        elif isinstance(node, ast.ExceptHandler) and node.name:
            yield node.name, node
        elif isinstance(node, (ast.FunctionDef, ast.ClassDef)) and id(node) not in inside:
            yield node.name, node


def module_imports(tree):
    return [node for node in tree.body if isinstance(node, ast.ImportFrom)]


class FilesTest(unittest.TestCase):
    def test_files_and_characters(self):
        for path in FOLDER.rglob("*"):
            if "__pycache__" in path.parts:
                continue
            self.assertTrue(path.is_dir() or path.suffix == ".py", f"L1 {path}")
            self.assertRegex(path.stem, "^([a-z][a-z0-9_]*|__init__|__main__)$", "L14")
            if path.is_dir():
                self.assertTrue((path / "__init__.py").exists(), f"L14 {path}")
        self.assertTrue((FOLDER / "__init__.py").exists())
        for path in sources():
            text = path.read_text()
            self.assertRegex(text, "\\A[ -~\n]*\\Z", f"L14 {path.name}")
            self.assertNotIn("_wall", text, f"L12 {path.name}")

    def test_sizes(self):
        for path in sources():
            lines = path.read_text().splitlines()
            self.assertLessEqual(len(lines), 399, f"L10 {path.name}")
            for at, line in enumerate(lines, 1):
                self.assertLessEqual(len(line), 120, f"L10 {path.name}:{at}")
        for name, tree in trees():
            for node in ast.walk(tree):
                if isinstance(node, ast.FunctionDef):
                    self.assertLessEqual(node.end_lineno - node.lineno + 1, 40, f"L10 {name}:{node.lineno}")

    def test_imports(self):
        for name, tree in trees():
            for node in ast.walk(tree):
                if isinstance(node, ast.Import):
                    self.fail(f"L16 {name}:{node.lineno}")
                if not isinstance(node, ast.ImportFrom):
                    continue
                self.assertIn(node, tree.body, f"L2 {name}:{node.lineno}")
                self.assertEqual(node.level, 0, f"L2 {name}:{node.lineno}")
                for alias in node.names:
                    if node.module in LIBRARY:
                        self.assertIn(alias.name, LIBRARY[node.module], f"L2 {name}:{node.lineno}")
                        self.assertIsNone(alias.asname)
                    else:
                        self.assertTrue(node.module.startswith("jointdraws."), f"L2 {name}:{node.lineno}")

    def test_imported_names_are_defined_there(self):
        defined = {}
        for path in sources():
            tree = ast.parse(path.read_text())
            made = {node.name for node in tree.body if isinstance(node, (ast.FunctionDef, ast.ClassDef))}
            made |= {target.id for node in tree.body if isinstance(node, ast.Assign) for target in node.targets}
            defined["jointdraws." + path.stem] = made
        for name, tree in trees():
            for node in module_imports(tree):
                if node.module in defined:
                    for alias in node.names:
                        self.assertIn(alias.name, defined[node.module], f"L16 {name}:{node.lineno}")

    def test_no_circle_of_imports(self):
        asked = {"jointdraws." + name[:-3]: {node.module for node in module_imports(tree)} for name, tree in trees()}
        while asked:
            free = [name for name in asked if not asked[name] & set(asked)]
            self.assertTrue(free, f"L16 {sorted(asked)}")
            asked = {name: asked[name] for name in asked if name not in free}

    def test_module_level(self):
        for name, tree in trees():
            kept = docstrings(tree)
            seen = []
            for node in tree.body:
                plain = isinstance(node, (ast.ImportFrom, ast.FunctionDef, ast.ClassDef, ast.Assign))
                plain = plain or isinstance(node, ast.Expr) and id(node.value) in kept
                self.assertTrue(plain, f"L3 {name}:{node.lineno}")
                if isinstance(node, ast.ImportFrom):
                    seen += [alias.asname or alias.name for alias in node.names]
                elif isinstance(node, ast.Assign):
                    self.assertTrue(len(node.targets) == 1 and isinstance(node.targets[0], ast.Name), f"L3 {name}:{node.lineno}")
                    seen.append(node.targets[0].id)
                elif not isinstance(node, ast.Expr):
                    seen.append(node.name)
            self.assertEqual(len(seen), len(set(seen)), f"L15 {name}")


class NamesTest(unittest.TestCase):
    def test_builtins(self):
        for name, tree in trees():
            for node in ast.walk(tree):
                if isinstance(node, ast.Name) and isinstance(node.ctx, ast.Load) and hasattr(builtins, node.id):
                    self.assertIn(node.id, BUILTINS, f"L8 {name}:{node.lineno}")

    def test_bound_names(self):
        for name, tree in trees():
            imported = {alias.asname or alias.name for node in module_imports(tree) for alias in node.names}
            imported |= {node.name for node in tree.body if isinstance(node, ast.ClassDef)}
            for bound, node in bound_names(tree):
                where = f"{name}:{getattr(node, 'lineno', 0)} {bound}"
                self.assertRegex(bound, "^(_|_?[A-Za-z][A-Za-z0-9_]*)$", f"L12 {where}")
                self.assertFalse(hasattr(builtins, bound), f"L15 {where}")
                self.assertNotIn(bound, NEVER | NOT_BOUND, f"L17 {where}")
                if isinstance(node, (ast.Name, ast.arg)):
                    self.assertNotIn(bound, imported, f"L15 {where}")
            for node in ast.walk(tree):
                if isinstance(node, ast.Name) and node.id == "_":
                    self.assertIsInstance(node.ctx, ast.Store, f"L12 {name}:{node.lineno}")

    def test_attributes_and_methods(self):
        for name, tree in trees():
            for node in ast.walk(tree):
                if isinstance(node, ast.Attribute):
                    self.assertNotIn(node.attr, NEVER, f"L17 {name}:{node.lineno}")
                    if isinstance(node.ctx, ast.Store):
                        self.assertNotIn(node.attr, TAKEN - FREE_ATTRIBUTES, f"L26 {name}:{node.lineno}")
                if not isinstance(node, ast.ClassDef):
                    continue
                methods = [item for item in node.body if isinstance(item, ast.FunctionDef)]
                for method in methods:
                    if method.name.startswith("__"):
                        self.assertIn(method.name, METHODS, f"L5 {name}:{method.lineno}")
                    else:
                        self.assertNotIn(method.name, (TAKEN - FREE_METHODS) | NEVER, f"L26 {name}:{method.lineno}")
                        self.assertFalse(hasattr(builtins, method.name) and method.name in BUILTINS, f"L15 {name}:{method.lineno}")

    def test_words(self):
        for path in sources():
            tree = ast.parse(path.read_text())
            kept = docstrings(tree)
            words = [node.id for node in ast.walk(tree) if isinstance(node, ast.Name)]
            words += [node.attr for node in ast.walk(tree) if isinstance(node, ast.Attribute)]
            words += [node.arg for node in ast.walk(tree) if isinstance(node, (ast.arg, ast.keyword)) and node.arg]
            words += [bound for bound, _ in bound_names(tree)]
            for node in ast.walk(tree):
                if isinstance(node, ast.Constant) and isinstance(node.value, str) and id(node) not in kept:
                    words += re.findall("[A-Za-z_]+", node.value)
            self.assertEqual(sorted(set(words) & WORDS), [], f"L17 {path.name}")


class ExpressionsTest(unittest.TestCase):
    def test_nodes(self):
        for name, tree in trees():
            for node in ast.walk(tree):
                self.assertNotIsInstance(node, NODES, f"L6 L7 {name}:{getattr(node, 'lineno', 0)}")
                if isinstance(node, ast.Constant):
                    self.assertNotIsInstance(node.value, (float, complex), f"L7 {name}:{node.lineno}")

    def test_strings(self):
        for name, tree in trees():
            kept = docstrings(tree)
            for node in ast.walk(tree):
                if isinstance(node, ast.Constant) and isinstance(node.value, str) and id(node) not in kept:
                    self.assertNotIn("%", node.value, f"L27 {name}:{node.lineno}")
                    self.assertNotRegex(node.value, "^__.*__$|[.]__?$", f"L27 {name}:{node.lineno}")

    def test_names_in_comprehensions(self):
        kinds = (ast.ListComp, ast.DictComp, ast.SetComp, ast.GeneratorExp)
        for name, tree in trees():
            for function in [node for node in ast.walk(tree) if isinstance(node, ast.FunctionDef)]:
                comprehensions = [node for node in ast.walk(function) if isinstance(node, kinds)]
                targets = {id(each): {inner.id for part in each.generators for inner in ast.walk(part.target) if isinstance(inner, ast.Name)}
                           for each in comprehensions}
                within = {id(inner) for each in comprehensions for inner in ast.walk(each)}
                plain = {node.id for node in ast.walk(function) if isinstance(node, ast.Name)
                         and isinstance(node.ctx, ast.Store) and id(node) not in within}
                for each in comprehensions:
                    for inner in ast.walk(each):
                        if inner is not each and isinstance(inner, kinds):
                            taken = (plain | targets[id(each)]) - {"_"}
                            self.assertEqual(targets[id(inner)] & taken, set(), f"L7 {name}:{inner.lineno}")

    def test_attributes_are_no_methods(self):
        methods, stored = set(), {}
        for name, tree in trees():
            for node in ast.walk(tree):
                if isinstance(node, ast.ClassDef):
                    methods |= {item.name for item in node.body if isinstance(item, ast.FunctionDef)}
                if isinstance(node, ast.Attribute) and isinstance(node.ctx, ast.Store):
                    stored[node.attr] = f"L5 L18 {name}:{node.lineno} {node.attr}"
        self.assertEqual([stored[attribute] for attribute in stored if attribute in methods], [])

    def test_methods_of_the_same_name_take_as_many_arguments(self):
        taken = {}
        for name, tree in trees():
            for made in [node for node in ast.walk(tree) if isinstance(node, ast.ClassDef)]:
                for method in [item for item in made.body if isinstance(item, ast.FunctionDef) and not item.name.startswith("__")]:
                    count = len(method.args.args)
                    self.assertEqual(taken.setdefault(method.name, count), count, f"L22 {name}:{method.lineno}")

    def test_rows_of_exit(self):
        for name, tree in trees():
            for method in [node for node in ast.walk(tree) if isinstance(node, ast.FunctionDef) and node.name == "__exit__"]:
                self.assertIn([arg.arg for arg in method.args.args], [["self", "kind", "value", "trace"]], f"L6 {name}:{method.lineno}")
                for row in method.body:
                    self.assertIsInstance(row, ast.Assign, f"L6 {name}:{row.lineno}")
                    self.assertIsInstance(row.value, ast.Attribute, f"L6 {name}:{row.lineno}")

    def test_no_function_has_the_name_of_a_generator(self):
        yields, names = set(), []
        for _, tree in trees():
            for node in ast.walk(tree):
                if isinstance(node, ast.FunctionDef):
                    names.append(node.name)
                    if any(isinstance(inner, (ast.Yield, ast.YieldFrom)) for inner in ast.walk(node)):
                        yields.add(node.name)
        self.assertEqual([name for name in yields if names.count(name) > 1], [])

    def test_generators_over_own_equality(self):
        for name, tree in trees():
            for node in ast.walk(tree):
                if isinstance(node, ast.Call) and isinstance(node.func, ast.Name) and node.func.id in LISTS_ONLY:
                    for given in node.args:
                        self.assertNotIsInstance(given, ast.GeneratorExp, f"L7 {name}:{node.lineno}")

    def test_is(self):
        for name, tree in trees():
            for node in ast.walk(tree):
                if isinstance(node, ast.Compare) and any(isinstance(sign, (ast.Is, ast.IsNot)) for sign in node.ops):
                    right = node.comparators[-1]
                    self.assertTrue(isinstance(right, ast.Constant) and right.value in (None, True, False),
                                    f"L20 {name}:{node.lineno}")

    def test_sets_and_views_stand_where_they_may(self):
        for name, tree in trees():
            for node in ast.walk(tree):
                if isinstance(node, ast.For) and isinstance(node.iter, (ast.Set, ast.SetComp)):
                    self.fail(f"L24 {name}:{node.lineno}")
                if isinstance(node, ast.Return) and isinstance(node.value, (ast.Set, ast.SetComp, ast.GeneratorExp)):
                    self.fail(f"L24 {name}:{node.lineno}")
                if isinstance(node, ast.Call) and isinstance(node.func, ast.Name) and node.func.id == "len":
                    inner = node.args[0]
                    if isinstance(inner, ast.Call) and isinstance(inner.func, ast.Name):
                        self.assertNotIn(inner.func.id, ("zip", "enumerate", "reversed", "map"), f"L23 {name}:{node.lineno}")

    def test_errors_that_are_caught_and_raised(self):
        for name, tree in trees():
            for node in ast.walk(tree):
                if isinstance(node, ast.ExceptHandler):
                    self.assertIsNotNone(node.type, f"L6 {name}:{node.lineno}")
                    caught = node.type.elts if isinstance(node.type, ast.Tuple) else [node.type]
                    for each in caught:
                        self.assertNotIn(each.id, ("Exception", "TypeError", "ArithmeticError", "OverflowError", "RuntimeError",
                                                   "NotImplementedError", "AttributeError"), f"L19 {name}:{node.lineno}")
                if isinstance(node, ast.Raise) and node.exc is not None:
                    self.assertTrue(isinstance(node.exc, ast.Call) and isinstance(node.exc.func, ast.Name), f"L19 {name}:{node.lineno}")


class MethodsTest(unittest.TestCase):
    def test_lengths_and_texts(self):
        for name, tree in trees():
            for node in ast.walk(tree):
                if not isinstance(node, ast.FunctionDef) or node.name not in ("__len__", "__str__", "__repr__"):
                    continue
                self.assertIsInstance(node.body[-1], ast.Return, f"L28 {name}:{node.lineno}")
                for inner in ast.walk(node):
                    if isinstance(inner, ast.Return) and node.name == "__len__":
                        self.assertEqual(inner.value.func.id, "len", f"L28 {name}:{inner.lineno}")
                    elif isinstance(inner, ast.Return):
                        plain = isinstance(inner.value, (ast.JoinedStr, ast.Constant))
                        plain = plain or isinstance(inner.value, ast.Call) and ast.unparse(inner.value.func) in ("str", "repr")
                        self.assertTrue(plain, f"L28 {name}:{inner.lineno}")

    def test_equality_assigns_nothing(self):
        for name, tree in trees():
            for node in ast.walk(tree):
                if isinstance(node, ast.FunctionDef) and node.name in ("__eq__", "__len__", "__str__", "__repr__"):
                    for inner in ast.walk(node):
                        self.assertNotIsInstance(inner, (ast.Assign, ast.AugAssign, ast.AnnAssign), f"L28 {name}:{node.lineno}")

    def test_decorators(self):
        for name, tree in trees():
            for node in ast.walk(tree):
                if isinstance(node, ast.ClassDef):
                    self.assertEqual(node.decorator_list, [], f"L5 {name}:{node.lineno}")
                    self.assertLessEqual({id(item) for item in ast.walk(node) if isinstance(item, ast.ClassDef)}, {id(node)})
                if isinstance(node, ast.FunctionDef):
                    for each in node.decorator_list:
                        self.assertRegex(ast.unparse(each), "^(property|staticmethod|classmethod|[a-z_]+[.]setter)$",
                                         f"L4 {name}:{node.lineno}")


if __name__ == "__main__":
    unittest.main()
