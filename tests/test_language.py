"""The files of the package keep to the plain part of Python that the program is written in, as far as is told here."""

import ast
import builtins
import re
import unittest
from pathlib import Path

FOLDER = Path(__file__).resolve().parent.parent / "ordersbehind"

LIBRARY = {
    "heapq": {"heappush", "heappop", "heapify", "heapreplace", "heappushpop"},
    "math": {"gcd", "lcm", "isqrt", "comb", "perm", "factorial"},
    "itertools": {"chain", "accumulate", "pairwise", "islice", "zip_longest"},
    "collections": {"defaultdict"},
}

BUILTINS = set("""len range enumerate zip map min max sum abs sorted reversed int str bool bytes list tuple dict set
    frozenset isinstance ord repr any all divmod pow getattr hasattr setattr iter next Exception ValueError TypeError
    KeyError IndexError LookupError ZeroDivisionError ArithmeticError OverflowError RuntimeError NotImplementedError
    AttributeError StopIteration NotImplemented property staticmethod classmethod super object""".split())

METHODS = set("""append clear copy count endswith extend find get index insert isalnum isalpha isdigit islower isspace
    isupper items join keys ljust lower lstrip partition pop remove replace reverse rfind rjust rpartition rsplit rstrip
    setdefault split splitlines startswith strip update upper values zfill bit_length add discard sort""".split())

DOUBLE = set("""init eq repr str len enter exit call iter lt le gt ge ne add sub mul floordiv mod pow and or xor lshift
    rshift radd rsub rmul rfloordiv rmod rand ror rxor rlshift rrshift iadd isub imul ifloordiv imod iand ior ixor
    ilshift irshift neg pos invert abs bool contains getitem setitem""".split())

BARRED = (ast.Global, ast.AsyncFunctionDef, ast.AsyncFor, ast.AsyncWith, ast.Await, ast.GeneratorExp, ast.Div, ast.Import)


def files():
    return sorted(FOLDER.glob("*.py"))


def trees():
    return [(path, ast.parse(path.read_text(encoding="utf-8"))) for path in files()]


def nodes(kind):
    return [(path.name, node) for path, tree in trees() for node in ast.walk(tree) if isinstance(node, kind)]


def bound_names(node):
    """The names that a function's parameters, assignments, loops and handlers bind."""
    names = {arg.arg for arg in ast.walk(node) if isinstance(arg, ast.arg)}
    names |= {name.id for name in ast.walk(node) if isinstance(name, ast.Name) and not isinstance(name.ctx, ast.Load)}
    return names | {one.name for one in ast.walk(node) if isinstance(one, ast.ExceptHandler) and one.name}


class FilesTest(unittest.TestCase):

    def test_folder(self):
        for path in FOLDER.rglob("*"):
            if "__pycache__" not in path.parts:
                self.assertTrue(path.is_dir() or re.fullmatch(r"[a-z0-9_]+\.py", path.name), path)
        self.assertTrue((FOLDER / "__init__.py").exists())
        self.assertLessEqual(len(files()), 100)

    def test_lines_and_characters(self):
        for path in files():
            text = path.read_text(encoding="utf-8")
            self.assertLessEqual(len(text.split("\n")) - 1, 399, path.name)
            self.assertTrue(all(sign == "\n" or " " <= sign <= "~" for sign in text), path.name)
            for line in text.split("\n"):
                self.assertLessEqual(len(line), 120, path.name)

    def test_functions_are_short(self):
        for name, node in nodes(ast.FunctionDef):
            self.assertLessEqual(node.end_lineno - node.lineno + 1, 40, (name, node.name))


class ImportsTest(unittest.TestCase):

    def test_imports(self):
        defined = {path.stem: {node.name if not isinstance(node, ast.Assign) else node.targets[0].id
                               for node in tree.body
                               if isinstance(node, (ast.FunctionDef, ast.ClassDef, ast.Assign))}
                   for path, tree in trees()}
        for name, node in nodes(ast.ImportFrom):
            self.assertEqual(node.level, 0, name)
            if node.module in LIBRARY:
                known = LIBRARY[node.module]
            else:
                self.assertTrue(node.module.startswith("ordersbehind."), (name, node.module))
                known = defined[node.module.split(".")[1]]
            for alias in node.names:
                self.assertIsNone(alias.asname)
                self.assertIn(alias.name, known, name)

    def test_every_import_is_used(self):
        for path, tree in trees():
            used = {node.id for node in ast.walk(tree) if isinstance(node, ast.Name)}
            for node in ast.walk(tree):
                if isinstance(node, ast.ImportFrom):
                    for alias in node.names:
                        self.assertIn(alias.name, used, path.name)

    def test_no_ring_of_imports(self):
        ahead = {path.stem: {node.module.split(".")[1] for node in tree.body
                             if isinstance(node, ast.ImportFrom) and node.module.startswith("ordersbehind.")}
                 for path, tree in trees()}
        while ahead:
            ready = [name for name, needed in ahead.items() if not needed & set(ahead)]
            self.assertTrue(ready, ahead)
            for name in ready:
                del ahead[name]


class StatementsTest(unittest.TestCase):

    def test_module_level(self):
        for path, tree in trees():
            for node in tree.body:
                docstring = isinstance(node, ast.Expr) and isinstance(node.value, ast.Constant)
                kinds = (ast.ImportFrom, ast.FunctionDef, ast.ClassDef, ast.Assign)
                self.assertTrue(docstring or isinstance(node, kinds), (path.name, node.lineno))

    def test_barred(self):
        for name, node in nodes(BARRED):
            self.fail((name, node.__class__.__name__, getattr(node, "lineno", None)))

    def test_values(self):
        for name, node in nodes(ast.Constant):
            self.assertIsInstance(node.value, (int, str, bytes, type(None)), (name, node.lineno))
            if isinstance(node.value, str):
                self.assertNotIn("%", node.value, (name, node.lineno))

    def test_decorators(self):
        for name, node in nodes((ast.FunctionDef, ast.ClassDef)):
            for one in node.decorator_list:
                self.assertIn(ast.unparse(one).split(".")[-1], {"property", "staticmethod", "classmethod", "setter"})

    def test_double_underscores(self):
        for name, node in nodes(ast.FunctionDef):
            if node.name.startswith("__"):
                self.assertIn(node.name.strip("_"), DOUBLE, name)

    def test_len_is_len(self):
        for name, node in nodes(ast.FunctionDef):
            if node.name == "__len__":
                self.assertTrue(ast.unparse(node.body[-1]).startswith("return len("), name)


class NamesTest(unittest.TestCase):

    def test_builtins(self):
        for name, node in nodes(ast.Name):
            if isinstance(node.ctx, ast.Load) and hasattr(builtins, node.id):
                self.assertIn(node.id, BUILTINS, (name, node.lineno))

    def test_own_names(self):
        for path, tree in trees():
            taken = {alias.name for node in tree.body if isinstance(node, ast.ImportFrom) for alias in node.names}
            taken |= {node.name for node in tree.body if isinstance(node, ast.ClassDef)}
            for node in ast.walk(tree):
                if isinstance(node, ast.FunctionDef):
                    names = bound_names(node)
                    self.assertFalse(names & taken, (path.name, node.name))
                    self.assertFalse([name for name in names if hasattr(builtins, name)], (path.name, node.name))

    def test_methods(self):
        own = {node.name for _, node in nodes(ast.FunctionDef)}
        for name, node in nodes(ast.Call):
            if isinstance(node.func, ast.Attribute):
                self.assertIn(node.func.attr, METHODS | own | {"__init__"}, (name, node.lineno))

    def test_caught_errors(self):
        for name, node in nodes(ast.ExceptHandler):
            self.assertIsNotNone(node.type, (name, node.lineno))


if __name__ == "__main__":
    unittest.main()
