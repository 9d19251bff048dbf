"""Rules of the language subset that a look at the code can check; not all of them."""

import ast
import builtins
import pathlib
import re
import unittest

PACKAGE = pathlib.Path(__file__).resolve().parent.parent / "nearsteps"
FILES = sorted(PACKAGE.rglob("*.py"))
LIBRARY = {
    "math": {"gcd", "lcm", "isqrt", "comb", "perm", "factorial"},
    "itertools": {"product", "combinations", "permutations"},
}
# A doctest that ran before leaves an underscore among them.
TAKEN = set(dir(builtins)) - {"_"}
BUILTINS = set(
    "len range enumerate zip min max sum abs sorted reversed int str bool list tuple dict set isinstance ord repr "
    "any all divmod Exception ValueError KeyError IndexError ZeroDivisionError".split())
METHODS = set(
    "append clear copy count endswith extend find get index insert items join keys pop remove replace reverse "
    "setdefault split startswith strip update values add discard bit_length".split())
BARRED = set(
    "register mro elements open input law version_info type typing enum Enum dataclass namedtuple overload "
    "contextmanager getattr setattr hasattr eval exec compile globals locals vars dir id help exit quit chr".split())
NODES = (
    ast.AsyncFunctionDef, ast.AsyncFor, ast.AsyncWith, ast.Await, ast.Global, ast.Import, ast.Yield, ast.YieldFrom,
    ast.Div, ast.Pow, ast.Starred, ast.JoinedStr, ast.Try, ast.With, ast.NamedExpr, ast.AnnAssign, ast.Set,
    ast.SetComp,
)
GOES_OVER = {"list", "tuple", "dict", "sorted", "sum", "min", "max", "any", "all"}


def trees():
    """Return the path and the tree of each file."""
    return [(path, ast.parse(path.read_text("ascii"))) for path in FILES]


def functions_of(tree):
    return [node for node in ast.walk(tree) if isinstance(node, ast.FunctionDef)]


def imported(tree):
    """Return pairs of a module and a name."""
    return [(node.module, name.name) for node in tree.body if isinstance(node, ast.ImportFrom) for name in node.names]


def bound_in(node):
    """Return the names of the parameters and local variables of a function."""
    names = [part.arg for part in ast.walk(node) if isinstance(part, ast.arg)]
    return names + [part.id for part in ast.walk(node)
                    if isinstance(part, ast.Name) and isinstance(part.ctx, ast.Store)]


class FilesTest(unittest.TestCase):

    def test_only_python_files(self):
        for path in PACKAGE.rglob("*"):
            if "__pycache__" not in path.parts:
                self.assertTrue(path.is_file() and re.fullmatch(r"[a-z_][a-z0-9_]*\.py", path.name), path)
        self.assertTrue((PACKAGE / "__init__.py").is_file())

    def test_text(self):
        for path in FILES:
            text = path.read_bytes().decode("ascii")
            self.assertTrue(all(sign == "\n" or " " <= sign <= "~" for sign in text), path)
            lines = text.split("\n")
            self.assertLessEqual(len(lines), 399, path)
            self.assertLessEqual(max(map(len, lines)), 120, path)
            self.assertNotIn("_wall", text)

    def test_functions_are_small(self):
        for path, tree in trees():
            for node in functions_of(tree):
                self.assertLessEqual(node.end_lineno - node.lineno + 1, 40, (path, node.name))
                self.assertEqual(node.decorator_list, [])


class NamesTest(unittest.TestCase):

    def test_imports(self):
        own = {f"nearsteps.{path.stem}": tree for path, tree in trees()}
        for path, tree in trees():
            self.assertEqual(sum(isinstance(node, ast.ImportFrom) for node in ast.walk(tree)),
                             sum(isinstance(node, ast.ImportFrom) for node in tree.body), path)
            names = [name for _, name in imported(tree)]
            self.assertEqual(len(names), len(set(names)), path)
            for module, name in imported(tree):
                if module in own:
                    self.assertIn(name, [node.name for node in own[module].body if hasattr(node, "name")])
                else:
                    self.assertIn(name, LIBRARY[module])
            used = {node.id for node in ast.walk(tree) if isinstance(node, ast.Name)}
            self.assertLessEqual(set(names), used, path)

    def test_no_circles(self):
        needs = {f"nearsteps.{path.stem}": {module for module, _ in imported(tree)} for path, tree in trees()}
        done = set(LIBRARY)
        while set(needs) - done:
            free = [module for module in needs if module not in done and needs[module] <= done]
            self.assertTrue(free, "files import from each other")
            done.update(free)

    def test_each_name_once(self):
        for path, tree in trees():
            top = [name for _, name in imported(tree)] + [node.name for node in tree.body if hasattr(node, "name")]
            self.assertEqual(len(top), len(set(top)), path)
            taken = {name for _, name in imported(tree)} | TAKEN | {
                node.name for node in tree.body if isinstance(node, ast.ClassDef)}
            self.assertFalse({node.name for node in functions_of(tree) if node.name != "__init__"} & TAKEN)
            for node in functions_of(tree):
                self.assertFalse(set(bound_in(node)) & taken, (path, node.name))
                self.assertFalse(set(bound_in(node)) & {one.name for one in functions_of(tree)}, (path, node.name))

    def test_names_in_use(self):
        for path, tree in trees():
            names = [node.id for node in ast.walk(tree) if isinstance(node, ast.Name)]
            attributes = [node.attr for node in ast.walk(tree) if isinstance(node, ast.Attribute)]
            self.assertFalse(BARRED & set(names + attributes), path)
            self.assertFalse(set(names) & (TAKEN - BUILTINS), path)
            self.assertFalse([name for name in names + attributes if name.startswith("__")], path)
            # An underscore alone is assigned, never read.
            self.assertFalse([node for node in ast.walk(tree) if isinstance(node, ast.Name)
                              and node.id == "_" and isinstance(node.ctx, ast.Load)], path)


class CodeTest(unittest.TestCase):

    def test_module_level(self):
        for path, tree in trees():
            self.assertTrue(ast.get_docstring(tree), path)
            for node in tree.body[1:]:
                plain = isinstance(node, ast.Assign) and len(node.targets) == 1
                self.assertTrue(plain or isinstance(node, (ast.ImportFrom, ast.FunctionDef, ast.ClassDef)), path)

    def test_no_other_statements(self):
        for path, tree in trees():
            for node in ast.walk(tree):
                self.assertNotIsInstance(node, NODES, path)
                if isinstance(node, ast.Constant):
                    self.assertNotIsInstance(node.value, (float, complex, bytes), path)

    def test_is_beside_none(self):
        for path, tree in trees():
            for node in ast.walk(tree):
                if isinstance(node, ast.Compare) and isinstance(node.ops[0], (ast.Is, ast.IsNot)):
                    right = node.comparators[0]
                    self.assertTrue(isinstance(right, ast.Constant) and right.value in (None, True, False), path)

    def test_generator_expressions_stand_in_calls(self):
        for path, tree in trees():
            right = [part for node in ast.walk(tree) if isinstance(node, ast.Call)
                     and isinstance(node.func, ast.Name) and node.func.id in GOES_OVER for part in node.args]
            for node in ast.walk(tree):
                if isinstance(node, ast.GeneratorExp):
                    self.assertIn(node, right, path)

    def test_methods(self):
        for path, tree in trees():
            for node in ast.walk(tree):
                if isinstance(node, ast.Call) and isinstance(node.func, ast.Attribute):
                    self.assertIn(node.func.attr, METHODS, path)
                    self.assertEqual(node.keywords, [], path)

    def test_library(self):
        # What comes from the library is only called, in a function, and products are gone over at once.
        for path, tree in trees():
            names = {name for module, name in imported(tree) if module in LIBRARY}
            products = {name for module, name in imported(tree) if module == "itertools"}
            calls = [node for top in functions_of(tree) for node in ast.walk(top) if isinstance(node, ast.Call)]
            called = [node.func for node in calls]
            heads = [node.iter for node in ast.walk(tree) if isinstance(node, (ast.For, ast.comprehension))]
            for node in ast.walk(tree):
                if isinstance(node, ast.Name) and node.id in names:
                    self.assertIn(node, called, path)
            for node in calls:
                if isinstance(node.func, ast.Name) and node.func.id in names:
                    self.assertEqual(node.keywords, [], path)
                if isinstance(node.func, ast.Name) and node.func.id in products:
                    self.assertIn(node, heads, path)

    def test_views_are_gone_over_at_once(self):
        for path, tree in trees():
            heads = [node.iter for node in ast.walk(tree) if isinstance(node, (ast.For, ast.comprehension))]
            for node in ast.walk(tree):
                if isinstance(node, ast.Call) and isinstance(node.func, ast.Attribute):
                    if node.func.attr in ("items", "keys", "values"):
                        self.assertIn(node, heads, path)

    def test_sets_are_sorted_on_the_spot(self):
        for path, tree in trees():
            sorts = [part for node in ast.walk(tree) if isinstance(node, ast.Call)
                     and isinstance(node.func, ast.Name) and node.func.id in ("sorted", "len") for part in node.args]
            for node in ast.walk(tree):
                if isinstance(node, ast.Call) and isinstance(node.func, ast.Name) and node.func.id == "set":
                    self.assertIn(node, sorts, path)

    def test_strings(self):
        for path, tree in trees():
            for node in ast.walk(tree):
                if isinstance(node, ast.Constant) and isinstance(node.value, str):
                    self.assertNotIn("%", node.value, path)

    def test_errors_are_made_on_the_spot(self):
        for path, tree in trees():
            for node in ast.walk(tree):
                if isinstance(node, ast.Raise):
                    self.assertIsInstance(node.exc, ast.Call, path)
                    self.assertIsInstance(node.exc.func, ast.Name, path)
                    self.assertTrue(node.exc.func.id.startswith("Bad"), path)


if __name__ == "__main__":
    unittest.main()
