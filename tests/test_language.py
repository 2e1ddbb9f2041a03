"""[1] and the rules of the language, as far as a short look at the files can tell."""

import ast
import builtins
import pathlib
import unittest

PACKAGE = pathlib.Path(__file__).resolve().parent.parent / "oncethrough"
FILES = sorted(PACKAGE.rglob("*.py"))

LIBRARY = {"heapq": {"heappush", "heappop", "heapify", "heapreplace", "heappushpop"},
           "math": {"gcd", "lcm", "isqrt", "comb", "perm", "factorial"},
           "itertools": {"product", "combinations", "permutations", "chain", "accumulate", "pairwise", "islice",
                         "zip_longest"},
           "collections": {"defaultdict"}}

BUILTINS = set("""len range enumerate zip min max sum abs sorted reversed int str bool bytes list tuple dict set frozenset
isinstance ord repr any all divmod pow getattr hasattr setattr iter next map super property staticmethod classmethod
Exception ValueError TypeError KeyError IndexError LookupError ZeroDivisionError ArithmeticError OverflowError RuntimeError
NotImplementedError AttributeError StopIteration NotImplemented""".split())

METHODS = set("""append clear copy count endswith extend find get index insert isalnum isalpha isdigit islower isspace isupper
items join keys ljust lower lstrip partition pop remove replace reverse rfind rjust rpartition rsplit rstrip setdefault
split splitlines startswith strip update upper values zfill bit_length""".split())

NEVER = {"register", "mro", "elements", "open", "input", "law", "version_info", "with_traceback", "add_note"}

# These do not stand in the strings of a package either.
BARRED = ("enum", "typing", "namedtuple", "dataclass", "overload", "contextmanager")

NODES = (ast.GeneratorExp, ast.Global, ast.AsyncFunctionDef, ast.Await, ast.Div, ast.TypeAlias
         if hasattr(ast, "TypeAlias") else ast.Global)


def tree_of(path):
    return ast.parse(path.read_text(encoding="utf-8"))


def assigned(tree):
    """All names that a file gives to something."""
    for node in ast.walk(tree):
        if isinstance(node, ast.Name) and not isinstance(node.ctx, ast.Load):
            yield node.id
        elif isinstance(node, ast.arg):
            yield node.arg


class Files(unittest.TestCase):
    def each(self):
        return [(path, tree_of(path)) for path in FILES]

    def test_there_are_only_files_of_the_package(self):
        found = [path for path in PACKAGE.iterdir() if path.name != "__pycache__"]
        self.assertEqual(sorted(found), FILES)
        self.assertIn("__init__.py", [path.name for path in FILES])

    def test_sizes_and_characters(self):
        for path, tree in self.each():
            text = path.read_text(encoding="utf-8")
            lines = text.splitlines()
            self.assertLessEqual(len(lines), 399)
            self.assertLessEqual(max(map(len, lines)), 120)
            self.assertTrue(all(sign == "\n" or " " <= sign <= "~" for sign in text))
            for node in ast.walk(tree):
                if isinstance(node, ast.FunctionDef):
                    self.assertLessEqual(node.end_lineno - node.lineno + 1, 40, node.name)

    def test_imports(self):
        names = {path.stem for path in FILES}
        for path, tree in self.each():
            for node in ast.walk(tree):
                self.assertNotIsInstance(node, ast.Import)
                if isinstance(node, ast.ImportFrom):
                    found = {alias.name for alias in node.names}
                    top, _, rest = node.module.partition(".")
                    self.assertTrue(found <= LIBRARY.get(node.module, set()) or top == "oncethrough" and rest in names)
                    self.assertEqual(node.level, 0)

    def test_builtins_and_methods(self):
        own = {node.name for _, tree in self.each() for node in ast.walk(tree) if isinstance(node, ast.FunctionDef)}
        for path, tree in self.each():
            for node in ast.walk(tree):
                if isinstance(node, ast.Name) and hasattr(builtins, node.id):
                    self.assertIn(node.id, BUILTINS)
                if isinstance(node, ast.Call) and isinstance(node.func, ast.Attribute):
                    self.assertIn(node.func.attr, METHODS | own)

    def test_names(self):
        for path, tree in self.each():
            for name in assigned(tree):
                self.assertFalse(hasattr(builtins, name) or name in NEVER or name.startswith("__"), name)
            for node in ast.walk(tree):
                if isinstance(node, ast.Attribute):
                    self.assertNotIn(node.attr, NEVER)

    def test_statements_and_values(self):
        for path, tree in self.each():
            for node in ast.walk(tree):
                self.assertNotIsInstance(node, NODES)
                if isinstance(node, ast.Constant):
                    self.assertNotIsInstance(node.value, (float, complex))
                    if isinstance(node.value, str):
                        self.assertNotIn(chr(37), node.value)
                        self.assertFalse([word for word in BARRED if word in node.value.split()])
                for decorator in getattr(node, "decorator_list", []):
                    self.assertIn(ast.unparse(decorator), ("staticmethod", "classmethod", "property"))

    def test_module_level(self):
        for path, tree in self.each():
            for at, node in enumerate(tree.body):
                if at > 0 or not isinstance(node, ast.Expr):
                    self.assertIsInstance(node, (ast.ImportFrom, ast.FunctionDef, ast.ClassDef, ast.Assign))
            bound = [name.id for node in tree.body if isinstance(node, ast.Assign) for name in node.targets]
            bound += [node.name for node in tree.body if hasattr(node, "name")]
            bound += [alias.name for node in tree.body if isinstance(node, ast.ImportFrom) for alias in node.names]
            self.assertEqual(len(bound), len(set(bound)))

    def test_no_local_has_the_name_of_a_class_or_an_import(self):
        for path, tree in self.each():
            taken = {node.name for node in tree.body if isinstance(node, ast.ClassDef)}
            taken |= {alias.name for node in tree.body if isinstance(node, ast.ImportFrom) for alias in node.names}
            self.assertFalse(taken & set(assigned(tree)))

    def test_errors_that_are_caught(self):
        for path, tree in self.each():
            for node in ast.walk(tree):
                if isinstance(node, ast.ExceptHandler):
                    self.assertIsNotNone(node.type)
                    self.assertNotIn(ast.unparse(node.type), ("Exception", "TypeError", "AttributeError", "RuntimeError"))


if __name__ == "__main__":
    unittest.main()
