"""The rules of the language that a look at the files can tell."""

import ast
import builtins
import pathlib
import re
import unittest
import warnings

PACKAGE = pathlib.Path(__file__).resolve().parent.parent / "blockmoves"
FILES = sorted(path for path in PACKAGE.rglob("*") if "__pycache__" not in path.parts)
SOURCES = {path.stem: path.read_bytes().decode("utf-8") for path in FILES}
TREES = {name: ast.parse(source) for name, source in SOURCES.items()}

BUILTINS = set("""len range enumerate zip min max sum abs sorted reversed int str bool bytes list tuple dict set frozenset
isinstance repr any all divmod pow super staticmethod classmethod property iter next getattr hasattr setattr ord
Exception ValueError TypeError KeyError IndexError LookupError ZeroDivisionError ArithmeticError OverflowError
RuntimeError NotImplementedError AttributeError StopIteration NotImplemented""".split())
METHODS = set("""__init__ __eq__ __repr__ __str__ __len__ __enter__ __exit__ __call__ __iter__ __lt__ __le__ __gt__ __ge__
__ne__ __add__ __sub__ __mul__ __floordiv__ __mod__ __pow__ __and__ __or__ __xor__ __neg__ __pos__ __invert__ __abs__
__bool__ __contains__ __getitem__ __setitem__""".split())
WORDS = set("""type typing typing_extensions enum Enum IntEnum StrEnum Flag IntFlag Generic Protocol ABC ABCMeta namedtuple
NamedTuple TypedDict TYPE_CHECKING abstractmethod""".split())
LIBRARY = {"heapq", "math", "itertools", "collections"}


def nodes(*kinds):
    """(file, node) of all nodes of these kinds."""
    return [(name, node) for name, tree in TREES.items() for node in ast.walk(tree) if isinstance(node, kinds)]


def told(found):
    return [f"{name}:{node.lineno}" for name, node in found]


class RulesTest(unittest.TestCase):
    def test_files(self):
        self.assertIn("forms", TREES)
        for path in FILES:
            self.assertRegex(path.name, r"^(__init__|__main__|[a-z][a-z0-9_]*)\.py$")

    def test_sizes_and_signs(self):
        for name, source in SOURCES.items():
            lines = source.split("\n")
            self.assertLessEqual(len(lines) - 1, 399, name)
            self.assertTrue(source.endswith("\n") and not source.endswith("\n\n"), name)
            for line in lines:
                self.assertRegex(line, r"^([ -~]{0,119}[!-~])?$", name)
        for name, node in nodes(ast.FunctionDef):
            self.assertLessEqual(node.end_lineno - node.lineno + 1, 40, node.name)

    def test_no_warnings(self):
        with warnings.catch_warnings():
            warnings.simplefilter("error")
            for name, source in SOURCES.items():
                compile(source, name, "exec")

    def test_imports(self):
        self.assertEqual(told(nodes(ast.Import)), [])
        uses = {name: set() for name in TREES}
        for name, node in nodes(ast.ImportFrom):
            self.assertEqual(node.level, 0)
            self.assertIn(node, TREES[name].body)
            if node.module in LIBRARY:
                continue
            package, _, file = node.module.partition(".")
            self.assertEqual(package, "blockmoves")
            defined = {getattr(row, "name", None) for row in TREES[file].body}
            defined |= {target.id for row in TREES[file].body if isinstance(row, ast.Assign) for target in row.targets}
            for alias in node.names:
                self.assertIn(alias.name, defined)
            uses[name].add(file)
        done = set()
        while len(done) < len(uses):
            free = [name for name in uses if name not in done and uses[name] <= done]
            self.assertTrue(free, "files that import from each other")
            done.update(free)

    def test_kinds_of_nodes(self):
        self.assertEqual(told(nodes(
            ast.Global, ast.AsyncFunctionDef, ast.Await, ast.AsyncFor, ast.AsyncWith, ast.Div, ast.MatMult)), [])
        self.assertEqual([node.value for _, node in nodes(ast.Constant) if isinstance(node.value, (float, complex))], [])
        for name, tree in TREES.items():
            for row in tree.body:
                kinds = (ast.ImportFrom, ast.FunctionDef, ast.ClassDef, ast.Assign, ast.Expr)
                self.assertIsInstance(row, kinds, name)

    def test_generator_expressions(self):
        # Some classes of the package have an __eq__, so these take lists.
        for name, node in nodes(ast.Call):
            if isinstance(node.func, ast.Name) and node.func.id in ("any", "all", "min", "max", "sum", "sorted"):
                for argument in node.args:
                    self.assertNotIsInstance(argument, ast.GeneratorExp, name)

    def test_strings(self):
        for name, node in nodes(ast.Constant):
            if isinstance(node.value, str):
                self.assertNotIn("%", node.value, name)
                self.assertFalse(node.value.endswith(("._", ".__")), name)

    def test_decorators(self):
        for _, node in nodes(ast.FunctionDef):
            for decorator in node.decorator_list:
                self.assertIn(ast.unparse(decorator).split(".")[-1], ("staticmethod", "classmethod", "property", "setter"))
        self.assertEqual([node for _, node in nodes(ast.ClassDef) if node.decorator_list], [])

    def test_builtins(self):
        for name, node in nodes(ast.Name):
            if hasattr(builtins, node.id):
                self.assertIn(node.id, BUILTINS, name)
                self.assertIsInstance(node.ctx, ast.Load, name)
        for name, node in nodes(ast.arg):
            self.assertFalse(hasattr(builtins, node.arg), f"{name}: {node.arg}")

    def test_double_underscores(self):
        for _, node in nodes(ast.FunctionDef):
            if node.name.startswith("__"):
                self.assertIn(node.name, METHODS)

    def test_words(self):
        for name, node in nodes(ast.Name, ast.Attribute, ast.arg, ast.FunctionDef, ast.ClassDef, ast.alias, ast.keyword):
            word = getattr(node, "id", None) or getattr(node, "attr", None) or getattr(node, "arg", None) \
                or getattr(node, "name", None)
            self.assertNotIn(word, WORDS, name)
            self.assertNotIn(word, ("register", "mro", "elements", "open", "input", "law"), name)

    def test_one_generator_of_a_name(self):
        names = [node.name for _, node in nodes(ast.FunctionDef)]
        for _, node in nodes(ast.FunctionDef):
            if any(isinstance(inner, (ast.Yield, ast.YieldFrom)) for inner in ast.walk(node)):
                self.assertEqual(names.count(node.name), 1, node.name)

    def test_handlers(self):
        allowed = {"KeyError", "ZeroDivisionError", "StopIteration", "ValueError", "LookupError", "IndexError"}
        own = {node.name for _, node in nodes(ast.ClassDef)}
        for name, node in nodes(ast.ExceptHandler):
            self.assertIsNotNone(node.type, name)
            for caught in re.findall(r"\w+", ast.unparse(node.type)):
                self.assertIn(caught, allowed | own, name)


if __name__ == "__main__":
    unittest.main()
