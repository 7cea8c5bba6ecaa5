"""The rules of the language that a look at the files can tell."""

import ast
import builtins
import pathlib
import re
import unittest
import warnings

PACKAGE = pathlib.Path(__file__).resolve().parent.parent / "blockmoves"
FILES = sorted(path for path in PACKAGE.rglob("*") if "__pycache__" not in path.parts)
SOURCES = {path.stem: path.read_bytes().decode("utf-8") for path in FILES}
TREES = {name: ast.parse(source) for name, source in SOURCES.items()}

BUILTINS = set("""len range enumerate zip min max sum abs sorted reversed int str bool bytes list tuple dict set frozenset
isinstance repr any all divmod pow super staticmethod classmethod property iter next getattr hasattr setattr ord
Exception ValueError TypeError KeyError IndexError LookupError ZeroDivisionError ArithmeticError OverflowError
RuntimeError NotImplementedError AttributeError StopIteration NotImplemented""".split())
METHODS = set("""__init__ __eq__ __repr__ __str__ __len__ __enter__ __exit__ __call__ __iter__ __lt__ __le__ __gt__ __ge__
__ne__ __add__ __sub__ __mul__ __floordiv__ __mod__ __pow__ __and__ __or__ __xor__ __neg__ __pos__ __invert__ __abs__
__bool__ __contains__ __getitem__ __setitem__""".split())
WORDS = set("""type typing typing_extensions enum Enum IntEnum StrEnum Flag IntFlag Generic Protocol ABC ABCMeta namedtuple
NamedTuple TypedDict TYPE_CHECKING abstractmethod""".split())
LIBRARY = {"heapq", "math", "itertools", "collections"}


def nodes(*kinds):
    """(file, node) of all nodes of these kinds."""
    return [(name, node) for name, tree in TREES.items() for node in ast.walk(tree) if isinstance(node, kinds)]


def told(found):
    return [f"{name}:{node.lineno}" for name, node in found]


class RulesTest(unittest.TestCase):
    def test_files(self):
        self.assertIn("forms", TREES)
        for path in FILES:
            self.assertRegex(path.name, r"^(__init__|__main__|[a-z][a-z0-9_]*)\.py$")

    def test_sizes_and_signs(self):
        for name, source in SOURCES.items():
            lines = source.split("\n")
            self.assertLessEqual(len(lines) - 1, 399, name)
            self.assertTrue(source.endswith("\n") and not source.endswith("\n\n"), name)
            for line in lines:
                self.assertRegex(line, r"^([ -~]{0,119}[!-~])?$", name)
        for name, node in nodes(ast.FunctionDef):
            self.assertLessEqual(node.end_lineno - node.lineno + 1, 40, node.name)

    def test_no_warnings(self):
        with warnings.catch_warnings():
            warnings.simplefilter("error")
            for name, source in SOURCES.items():
                compile(source, name, "exec")

    def test_imports(self):
        self.assertEqual(told(nodes(ast.Import)), [])
        uses = {name: set() for name in TREES}
        for name, node in nodes(ast.ImportFrom):
            self.assertEqual(node.level, 0)
            self.assertIn(node, TREES[name].body)
            if node.module in LIBRARY:
                continue
            package, _, file = node.module.partition(".")
            self.assertEqual(package, "blockmoves")
            defined = {getattr(row, "name", None) for row in TREES[file].body}
            defined |= {target.id for row in TREES[file].body if isinstance(row, ast.Assign) for target in row.targets}
            for alias in node.names:
                self.assertIn(alias.name, defined)
            uses[name].add(file)
        done = set()
        while len(done) < len(uses):
            free = [name for name in uses if name not in done and uses[name] <= done]
            self.assertTrue(free, "files that import from each other")
            done.update(free)

    def test_kinds_of_nodes(self):
        self.assertEqual(told(nodes(
            ast.Global, ast.AsyncFunctionDef, ast.Await, ast.AsyncFor, ast.AsyncWith, ast.Div, ast.MatMult)), [])
        self.assertEqual([node.value for _, node in nodes(ast.Constant) if isinstance(node.value, (float, complex))], [])
        for name, tree in TREES.items():
            for row in tree.body:
                kinds = (ast.ImportFrom, ast.FunctionDef, ast.ClassDef, ast.Assign, ast.Expr)
                self.assertIsInstance(row, kinds, name)

    def test_generator_expressions(self):
        # Some classes of the package have an __eq__, so these take lists.
        for name, node in nodes(ast.Call):
            if isinstance(node.func, ast.Name) and node.func.id in ("any", "all", "min", "max", "sum", "sorted"):
                for argument in node.args:
                    self.assertNotIsInstance(argument, ast.GeneratorExp, name)

    def test_strings(self):
        for name, node in nodes(ast.Constant):
            if isinstance(node.value, str):
                self.assertNotIn("%", node.value, name)
                self.assertFalse(node.value.endswith(("._", ".__")), name)

    def test_decorators(self):
        for _, node in nodes(ast.FunctionDef):
            for decorator in node.decorator_list:
                self.assertIn(ast.unparse(decorator).split(".")[-1], ("staticmethod", "classmethod", "property", "setter"))
        self.assertEqual([node for _, node in nodes(ast.ClassDef) if node.decorator_list], [])

    def test_builtins(self):
        for name, node in nodes(ast.Name):
            if hasattr(builtins, node.id):
                self.assertIn(node.id, BUILTINS, name)
                self.assertIsInstance(node.ctx, ast.Load, name)
        for name, node in nodes(ast.arg):
            self.assertFalse(hasattr(builtins, node.arg), f"{name}: {node.arg}")

    def test_double_underscores(self):
        for _, node in nodes(ast.FunctionDef):
            if node.name.startswith("__"):
                self.assertIn(node.name, METHODS)

    def test_words(self):
        for name, node in nodes(ast.Name, ast.Attribute, ast.arg, ast.FunctionDef, ast.ClassDef, ast.alias, ast.keyword):
            word = getattr(node, "id", None) or getattr(node, "attr", None) or getattr(node, "arg", None) \
                or getattr(node, "name", None)
            self.assertNotIn(word, WORDS, name)
            self.assertNotIn(word, ("register", "mro", "elements", "open", "input", "law"), name)

    def test_one_generator_of_a_name(self):
        names = [node.name for _, node in nodes(ast.FunctionDef)]
        for _, node in nodes(ast.FunctionDef):
            if any(isinstance(inner, (ast.Yield, ast.YieldFrom)) for inner in ast.walk(node)):
                self.assertEqual(names.count(node.name), 1, node.name)

    def test_local_names(self):
        # No parameter and no variable has the name of a class, an import or a function of its file.
        for name, tree in TREES.items():
            taken = {alias.name for row in tree.body if isinstance(row, ast.ImportFrom) for alias in row.names}
            taken |= {row.name for row in tree.body if isinstance(row, (ast.ClassDef, ast.FunctionDef))}
            for node in ast.walk(tree):
                if isinstance(node, ast.arg):
                    self.assertNotIn(node.arg, taken, name)
                if isinstance(node, ast.Name) and isinstance(node.ctx, ast.Store):
                    self.assertNotIn(node.id, taken, name)

    def test_one_binding(self):
        for name, tree in TREES.items():
            bound = [alias.name for row in tree.body if isinstance(row, ast.ImportFrom) for alias in row.names]
            bound += [row.name for row in tree.body if isinstance(row, (ast.ClassDef, ast.FunctionDef))]
            bound += [target.id for row in tree.body if isinstance(row, ast.Assign) for target in row.targets]
            self.assertEqual(sorted(set(bound)), sorted(bound), name)
            used = {node.id for node in ast.walk(tree) if isinstance(node, ast.Name)}
            for row in tree.body:
                if isinstance(row, ast.ImportFrom):
                    for alias in row.names:
                        self.assertIn(alias.name, used, f"{name}: {alias.name} is imported in vain")

    def test_attributes_and_methods(self):
        methods, attributes = set(), set()
        for _, node in nodes(ast.ClassDef):
            methods |= {row.name for row in node.body if isinstance(row, ast.FunctionDef)}
        for _, node in nodes(ast.Attribute):
            if isinstance(node.ctx, ast.Store):
                attributes.add(node.attr)
        plain = {name for kind in (str, int, list, dict, set, bytes, tuple) for name in dir(kind)}
        values = {target.id for _, node in nodes(ast.ClassDef) for row in node.body if isinstance(row, ast.Assign)
                  for target in row.targets}
        free = set("count index title find get join lower upper split strip copy add".split())
        self.assertEqual(attributes & plain - free, set())
        self.assertEqual({name for name in methods if not name.startswith("__")} & plain, set())
        # A name may be both in different classes; the interface has `workshop.operation(name)`.
        self.assertEqual(attributes & methods, {"operation"})
        for name, node in nodes(ast.ClassDef):
            own = {row.name for row in node.body if isinstance(row, ast.FunctionDef)}
            stored = {inner.attr for inner in ast.walk(node) if isinstance(inner, ast.Attribute)
                      and isinstance(inner.ctx, ast.Store) and ast.unparse(inner.value) == "self"}
            self.assertEqual(own & stored, set(), f"{name}: {node.name}")
        self.assertEqual(values & (attributes | methods), set())
        for name, node in nodes(ast.Attribute):
            self.assertIn(node.attr, attributes | methods | values | plain, f"{name}: {node.attr}")

    def test_no_method_off_a_class(self):
        classes = {node.name for _, node in nodes(ast.ClassDef)}
        for name, node in nodes(ast.Attribute):
            if isinstance(node.value, ast.Name) and node.value.id in classes:
                self.assertTrue(node.attr.isupper(), f"{name}: {node.attr}")

    def test_classes_are_not_values(self):
        classes = {node.name for _, node in nodes(ast.ClassDef)}
        for name, tree in TREES.items():
            allowed = set()
            for node in ast.walk(tree):
                if isinstance(node, ast.Call):
                    allowed.add(id(node.func))
                    if isinstance(node.func, ast.Name) and node.func.id == "isinstance":
                        allowed.add(id(node.args[1]))
                        allowed.update(id(one) for one in getattr(node.args[1], "elts", []))
                if isinstance(node, ast.ClassDef):
                    allowed.update(id(base) for base in node.bases)
                if isinstance(node, ast.Attribute):
                    allowed.add(id(node.value))
                if isinstance(node, ast.Raise):
                    self.assertIsInstance(node.exc, ast.Call, name)
                if isinstance(node, ast.ExceptHandler):
                    allowed.update(id(one) for one in ast.walk(node.type))
            for node in ast.walk(tree):
                if isinstance(node, ast.Name) and node.id in classes:
                    self.assertIn(id(node), allowed, f"{name}:{node.lineno} {node.id}")

    def test_sets(self):
        # A set stands after `in`, in sorted or len, or is a variable that its function assigns once.
        for name, tree in TREES.items():
            allowed = set()
            for node in ast.walk(tree):
                if isinstance(node, ast.Call) and isinstance(node.func, ast.Name) and node.func.id in ("sorted", "len"):
                    allowed.update(id(one) for one in node.args)
                if isinstance(node, ast.Compare):
                    allowed.update(id(one) for one in node.comparators)
                if isinstance(node, ast.Assign) and isinstance(node.targets[0], ast.Name):
                    allowed.add(id(node.value))
            for node in ast.walk(tree):
                called = isinstance(node, ast.Call) and isinstance(node.func, ast.Name) and node.func.id == "set"
                if called or isinstance(node, (ast.Set, ast.SetComp)):
                    self.assertIn(id(node), allowed, f"{name}:{node.lineno}")

    def test_handlers(self):
        allowed = {"KeyError", "ZeroDivisionError", "StopIteration", "ValueError", "LookupError", "IndexError"}
        own = {node.name for _, node in nodes(ast.ClassDef)}
        for name, node in nodes(ast.ExceptHandler):
            self.assertIsNotNone(node.type, name)
            for caught in re.findall(r"\w+", ast.unparse(node.type)):
                self.assertIn(caught, allowed | own, name)


if __name__ == "__main__":
    unittest.main()
