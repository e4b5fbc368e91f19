"""The form of the code: those of the rules of LANGUAGE.md that a plain look at the files can tell."""

import ast
import builtins
import os
import unittest

FOLDER = os.path.join(os.path.dirname(os.path.dirname(os.path.abspath(__file__))), "listpicks")

LIBRARY = {"heapq": ("heappush", "heappop", "heapify", "heapreplace", "heappushpop"),
           "math": ("gcd", "lcm", "isqrt", "comb", "perm", "factorial"),
           "itertools": ("product", "combinations", "permutations", "chain", "accumulate", "pairwise", "islice",
                         "zip_longest"),
           "collections": ("defaultdict", "deque")}
BUILTINS = """len range enumerate zip min max sum abs sorted reversed int str bool bytes list tuple dict set frozenset
isinstance ord repr any all divmod map iter next Exception ValueError TypeError KeyError IndexError LookupError
ZeroDivisionError ArithmeticError OverflowError RuntimeError NotImplementedError AttributeError StopIteration
NotImplemented""".split()
METHODS = """append clear copy count endswith extend find get index insert isalnum isalpha isdigit islower isspace
isupper items join keys ljust lower lstrip partition pop remove replace reverse rfind rjust rpartition rsplit rstrip
setdefault split splitlines startswith strip update upper values zfill bit_length sort add discard""".split()
BARRED = """register mro elements open input law version_info with_traceback add_note attrgetter breakpoint builtins
compile copyright credits delattr dir eval exec exit gc globals help id importlib license locals methodcaller os quit
vars sys type typing enum Enum Flag Generic Protocol ABC namedtuple NamedTuple TypedDict abstractmethod""".split()
STATEMENTS = (ast.Assign, ast.AugAssign, ast.AnnAssign, ast.If, ast.While, ast.For, ast.Return, ast.Break, ast.Continue,
              ast.Pass, ast.Raise, ast.Assert, ast.Delete, ast.Try, ast.Expr, ast.FunctionDef, ast.ClassDef,
              ast.ImportFrom)


def sources():
    """Pairs (name, text) of all files of the package."""
    found = []
    for name in sorted(os.listdir(FOLDER)):
        if name != "__pycache__":
            with open(os.path.join(FOLDER, name), encoding="utf-8", newline="") as file:
                found.append((name, file.read()))
    return found


class Form(unittest.TestCase):
    def setUp(self):
        self.files = sources()
        self.trees = {name: ast.parse(text) for name, text in self.files}

    def nodes(self, kind):
        for name, tree in self.trees.items():
            for node in ast.walk(tree):
                if isinstance(node, kind):
                    yield name, node

    def test_files(self):
        self.assertIn("__init__.py", self.trees)
        for name, text in self.files:
            self.assertRegex(name, r"\A[a-z0-9_]+\.py\Z")
            lines = text.split("\n")
            self.assertLess(len(lines) - 1, 400, name)
            self.assertEqual(lines[-1], "", name)
            for line in lines:
                self.assertLessEqual(len(line), 120, (name, line))
                self.assertTrue(all(" " <= sign <= "~" for sign in line), (name, line))
                self.assertEqual(line, line.rstrip(), (name, line))

    def test_functions_are_small(self):
        for name, node in self.nodes(ast.FunctionDef):
            self.assertLessEqual(node.end_lineno - node.lineno + 1, 40, (name, node.name))
            self.assertEqual(node.decorator_list, [], (name, node.name))

    def test_statements(self):
        for name, node in self.nodes(ast.stmt):
            self.assertIsInstance(node, STATEMENTS, (name, node.lineno))

    def test_module_level(self):
        for name, tree in self.trees.items():
            bound = []
            for node in tree.body:
                if isinstance(node, (ast.FunctionDef, ast.ClassDef)):
                    bound.append(node.name)
                elif isinstance(node, ast.ImportFrom):
                    bound.extend(alias.asname or alias.name for alias in node.names)
                elif isinstance(node, ast.Assign):
                    self.assertEqual(len(node.targets), 1, (name, node.lineno))
                    ast.literal_eval(node.value)
                    bound.append(node.targets[0].id)
                else:
                    self.assertIsInstance(node.value.value, str, (name, node.lineno))
            self.assertEqual(len(bound), len(set(bound)), name)

    def test_imports(self):
        ahead = {}
        for name, node in self.nodes(ast.ImportFrom):
            self.assertEqual(node.level, 0, name)
            self.assertNotIn("*", [alias.name for alias in node.names])
            if node.module in LIBRARY:
                for alias in node.names:
                    self.assertIn(alias.name, LIBRARY[node.module], name)
                    self.assertIs(alias.asname, None)
                continue
            package, file = node.module.split(".")
            self.assertEqual(package, "listpicks", name)
            defined = [getattr(part, "name", None) or part.targets[0].id for part in self.trees[file + ".py"].body
                       if isinstance(part, (ast.FunctionDef, ast.ClassDef, ast.Assign))]
            for alias in node.names:
                self.assertIn(alias.name, defined, (name, alias.name))
            ahead.setdefault(name, set()).add(file + ".py")
        order = []
        while len(order) < len(self.trees):
            free = [name for name in self.trees if name not in order and ahead.get(name, set()) <= set(order)]
            self.assertTrue(free, "files import from each other")
            order.extend(free)

    def test_what_is_imported_is_used(self):
        for name, tree in self.trees.items():
            used = {node.id for node in ast.walk(tree) if isinstance(node, ast.Name)}
            for node in ast.walk(tree):
                if isinstance(node, ast.ImportFrom):
                    for alias in node.names:
                        self.assertIn(alias.name, used, name)

    def test_values_and_signs(self):
        for name, node in self.nodes(ast.Constant):
            self.assertNotIsInstance(node.value, (float, complex), (name, node.lineno))
        for kind in (ast.Div, ast.Global, ast.Lambda, ast.Await, ast.YieldFrom, ast.MatMult, ast.Pow, ast.SetComp):
            self.assertEqual([(name, node) for name, node in self.nodes(kind)], [])
        for name, node in self.nodes(ast.Constant):
            if isinstance(node.value, str):
                self.assertNotIn("%", node.value, (name, node.lineno))

    def test_is_only_with_none_true_and_false(self):
        for name, node in self.nodes(ast.Compare):
            for sign, right in zip(node.ops, node.comparators):
                if isinstance(sign, (ast.Is, ast.IsNot)):
                    self.assertIsInstance(right, ast.Constant, (name, node.lineno))

    def test_names(self):
        for name, tree in self.trees.items():
            top = {alias.name for node in tree.body if isinstance(node, ast.ImportFrom) for alias in node.names}
            top |= {node.name for node in tree.body if isinstance(node, (ast.FunctionDef, ast.ClassDef))}
            bound = [node.id for node in ast.walk(tree) if isinstance(node, ast.Name) and isinstance(node.ctx, ast.Store)]
            bound += [node.arg for node in ast.walk(tree) if isinstance(node, ast.arg)]
            for one in set(bound) - {"_"}:
                self.assertNotIn(one, top, name)
                self.assertNotIn(one, dir(builtins), name)
                self.assertNotIn(one, BARRED, name)
                self.assertRegex(one, r"\A_?[A-Za-z][A-Za-z0-9_]*\Z")
            for one in top:
                self.assertNotIn(one, dir(builtins), name)
                self.assertNotIn(one, BARRED, name)

    def test_builtins_and_methods(self):
        methods = {part.name for _, node in self.nodes(ast.ClassDef) for part in node.body if isinstance(part, ast.FunctionDef)}
        for name, tree in self.trees.items():
            bound = {node.id for node in ast.walk(tree) if isinstance(node, ast.Name) and isinstance(node.ctx, ast.Store)}
            for node in ast.walk(tree):
                if isinstance(node, ast.Name) and isinstance(node.ctx, ast.Load) and node.id in dir(builtins):
                    self.assertIn(node.id, BUILTINS, (name, node.lineno))
                if isinstance(node, ast.Name) and isinstance(node.ctx, ast.Load):
                    self.assertNotEqual(node.id, "_", (name, node.lineno))
                if isinstance(node, ast.Call) and isinstance(node.func, ast.Attribute):
                    own = node.func.attr == "__init__"
                    self.assertTrue(own or node.func.attr in METHODS or node.func.attr in methods, (name, node.lineno))
            self.assertNotIn("__all__", bound)

    def test_classes(self):
        methods, stored = {}, {}
        for name, node in self.nodes(ast.ClassDef):
            for part in node.body:
                if isinstance(part, ast.FunctionDef):
                    methods.setdefault(part.name, set()).add(node.name)
                    if part.name.startswith("__"):
                        self.assertIn(part.name, ("__init__", "__len__"), name)
                    for one in ast.walk(part):
                        if isinstance(one, ast.Attribute) and isinstance(one.ctx, ast.Store):
                            stored.setdefault(one.attr, set()).add(node.name)
                            self.assertEqual(one.value.id, "self", (name, one.lineno))
                else:
                    self.assertIsInstance(part.value.value, str, (name, node.name))
        self.assertEqual(set(methods) & set(stored), set())
        for name, node in self.nodes(ast.Attribute):
            if isinstance(node.ctx, ast.Load) and node.attr not in METHODS:
                self.assertTrue(node.attr in methods or node.attr in stored, (name, node.attr))
            if isinstance(node.ctx, ast.Store):
                self.assertEqual(node.value.id, "self", (name, node.lineno))

    def test_caught_errors_are_own_ones(self):
        own = {node.name for _, node in self.nodes(ast.ClassDef)}
        for name, node in self.nodes(ast.ExceptHandler):
            self.assertIn(node.type.id, own, (name, node.lineno))

    def test_views_are_iterated_on_the_spot(self):
        for name, tree in self.trees.items():
            free = set()
            for node in ast.walk(tree):
                if isinstance(node, (ast.For, ast.comprehension)):
                    free.add(node.iter)
                if isinstance(node, ast.Call):
                    free.update(node.args)
            for node in ast.walk(tree):
                if isinstance(node, ast.Call):
                    word = getattr(node.func, "id", None) or getattr(node.func, "attr", None)
                    if word in ("zip", "enumerate", "reversed", "range", "items", "keys", "values"):
                        self.assertIn(node, free, (name, node.lineno))


if __name__ == "__main__":
    unittest.main()
