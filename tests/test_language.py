"""The files of the package keep to the plain part of Python that the program is written in, as far as is told here."""

import ast
import builtins
import re
import unittest
from pathlib import Path

FOLDER = Path(__file__).resolve().parent.parent / "ordersbehind"

LIBRARY = {
    "heapq": {"heappush", "heappop", "heapify", "heapreplace", "heappushpop"},
    "math": {"gcd", "lcm", "isqrt", "comb", "perm", "factorial"},
    "itertools": {"chain", "accumulate", "pairwise", "islice", "zip_longest"},
    "collections": {"defaultdict"},
}

BUILTINS = set("""len range enumerate zip map min max sum abs sorted reversed int str bool bytes list tuple dict set
    frozenset isinstance ord repr any all divmod pow getattr hasattr setattr iter next Exception ValueError TypeError
    KeyError IndexError LookupError ZeroDivisionError ArithmeticError OverflowError RuntimeError NotImplementedError
    AttributeError StopIteration NotImplemented property staticmethod classmethod super object""".split())

METHODS = set("""append clear copy count endswith extend find get index insert isalnum isalpha isdigit islower isspace
    isupper items join keys ljust lower lstrip partition pop remove replace reverse rfind rjust rpartition rsplit rstrip
    setdefault split splitlines startswith strip update upper values zfill bit_length add discard sort""".split())

DOUBLE = set("""init eq repr str len enter exit call iter lt le gt ge ne add sub mul floordiv mod pow and or xor lshift
    rshift radd rsub rmul rfloordiv rmod rand ror rxor rlshift rrshift iadd isub imul ifloordiv imod iand ior ixor
    ilshift irshift neg pos invert abs bool contains getitem setitem""".split())

BARRED = (ast.Global, ast.AsyncFunctionDef, ast.AsyncFor, ast.AsyncWith, ast.Await, ast.GeneratorExp, ast.Div, ast.Import)


def files():
    return sorted(FOLDER.glob("*.py"))


def trees():
    return [(path, ast.parse(path.read_text(encoding="utf-8"))) for path in files()]


def nodes(kind):
    return [(path.name, node) for path, tree in trees() for node in ast.walk(tree) if isinstance(node, kind)]


def bound_names(node):
    """The names that a function's parameters, assignments, loops and handlers bind."""
    names = {arg.arg for arg in ast.walk(node) if isinstance(arg, ast.arg)}
    names |= {name.id for name in ast.walk(node) if isinstance(name, ast.Name) and not isinstance(name.ctx, ast.Load)}
    return names | {one.name for one in ast.walk(node) if isinstance(one, ast.ExceptHandler) and one.name}


class FilesTest(unittest.TestCase):

    def test_folder(self):
        for path in FOLDER.rglob("*"):
            if "__pycache__" not in path.parts:
                self.assertTrue(path.is_dir() or re.fullmatch(r"[a-z0-9_]+\.py", path.name), path)
        self.assertTrue((FOLDER / "__init__.py").exists())
        self.assertLessEqual(len(files()), 100)

    def test_lines_and_characters(self):
        for path in files():
            text = path.read_text(encoding="utf-8")
            self.assertLessEqual(len(text.split("\n")) - 1, 399, path.name)
            self.assertTrue(all(sign == "\n" or " " <= sign <= "~" for sign in text), path.name)
            for line in text.split("\n"):
                self.assertLessEqual(len(line), 120, path.name)

    def test_functions_are_short(self):
        for name, node in nodes(ast.FunctionDef):
            self.assertLessEqual(node.end_lineno - node.lineno + 1, 40, (name, node.name))


class ImportsTest(unittest.TestCase):

    def test_imports(self):
        defined = {path.stem: {node.name if not isinstance(node, ast.Assign) else node.targets[0].id
                               for node in tree.body
                               if isinstance(node, (ast.FunctionDef, ast.ClassDef, ast.Assign))}
                   for path, tree in trees()}
        for name, node in nodes(ast.ImportFrom):
            self.assertEqual(node.level, 0, name)
            if node.module in LIBRARY:
                known = LIBRARY[node.module]
            else:
                self.assertTrue(node.module.startswith("ordersbehind."), (name, node.module))
                known = defined[node.module.split(".")[1]]
            for alias in node.names:
                self.assertIsNone(alias.asname)
                self.assertIn(alias.name, known, name)

    def test_every_import_is_used(self):
        for path, tree in trees():
            used = {node.id for node in ast.walk(tree) if isinstance(node, ast.Name)}
            for node in ast.walk(tree):
                if isinstance(node, ast.ImportFrom):
                    for alias in node.names:
                        self.assertIn(alias.name, used, path.name)

    def test_no_ring_of_imports(self):
        ahead = {path.stem: {node.module.split(".")[1] for node in tree.body
                             if isinstance(node, ast.ImportFrom) and node.module.startswith("ordersbehind.")}
                 for path, tree in trees()}
        while ahead:
            ready = [name for name, needed in ahead.items() if not needed & set(ahead)]
            self.assertTrue(ready, ahead)
            for name in ready:
                del ahead[name]


class StatementsTest(unittest.TestCase):

    def test_module_level(self):
        for path, tree in trees():
            for node in tree.body:
                docstring = isinstance(node, ast.Expr) and isinstance(node.value, ast.Constant)
                kinds = (ast.ImportFrom, ast.FunctionDef, ast.ClassDef, ast.Assign)
                self.assertTrue(docstring or isinstance(node, kinds), (path.name, node.lineno))

    def test_barred(self):
        for name, node in nodes(BARRED):
            self.fail((name, node.__class__.__name__, getattr(node, "lineno", None)))

    def test_values(self):
        for name, node in nodes(ast.Constant):
            self.assertIsInstance(node.value, (int, str, bytes, type(None)), (name, node.lineno))
            if isinstance(node.value, str):
                self.assertNotIn("%", node.value, (name, node.lineno))

    def test_decorators(self):
        for name, node in nodes((ast.FunctionDef, ast.ClassDef)):
            for one in node.decorator_list:
                self.assertIn(ast.unparse(one).split(".")[-1], {"property", "staticmethod", "classmethod", "setter"})

    def test_double_underscores(self):
        for name, node in nodes(ast.FunctionDef):
            if node.name.startswith("__"):
                self.assertIn(node.name.strip("_"), DOUBLE, name)

    def test_len_is_len(self):
        for name, node in nodes(ast.FunctionDef):
            if node.name == "__len__":
                self.assertTrue(ast.unparse(node.body[-1]).startswith("return len("), name)


CHANGING = set("append clear extend insert pop remove reverse setdefault update add discard sort".split())
VIEWS = set("items keys values".split())
WALKERS = set("enumerate zip reversed".split())


def functions():
    return nodes(ast.FunctionDef)


def path_of(node):
    """The name, or the name and attributes, that an expression consists of; None for other expressions."""
    if isinstance(node, ast.Name):
        return node.id
    if isinstance(node, ast.Attribute):
        ahead = path_of(node.value)
        return None if ahead is None else ahead + "." + node.attr
    return None


def root_of(node):
    """What an expression with items is an item of."""
    while isinstance(node, ast.Subscript):
        node = node.value
    return path_of(node)


def chosen(node):
    """The expressions of which the value is one."""
    if isinstance(node, ast.IfExp):
        return chosen(node.body) + chosen(node.orelse)
    if isinstance(node, ast.BoolOp):
        return [one for value in node.values for one in chosen(value)]
    return [node]


def walked(node):
    """What a loop over the expression goes over by its names; a list made in the head of the loop is nobody's."""
    found = set()
    for one in chosen(node):
        if isinstance(one, ast.Call) and isinstance(one.func, ast.Name) and one.func.id in WALKERS:
            found |= {path for value in one.args for path in walked(value)}
        elif isinstance(one, ast.Call) and isinstance(one.func, ast.Attribute) and one.func.attr in VIEWS:
            found |= walked(one.func.value)
        elif root_of(one) is not None:
            found.add(root_of(one))
    return found


def changed(statements):
    """What the statements change, by its names."""
    found = set()
    for top in statements:
        for node in ast.walk(top):
            if isinstance(node, ast.Call) and isinstance(node.func, ast.Attribute) and node.func.attr in CHANGING:
                found.add(root_of(node.func.value))
            elif isinstance(node, ast.Subscript) and not isinstance(node.ctx, ast.Load):
                found.add(root_of(node))
            elif isinstance(node, ast.AugAssign):
                found.add(root_of(node.target))
    return found - {None}


def one_and_the_same(function):
    """Groups of names that the function gives one value, whatever comes first."""
    groups = []
    for node in ast.walk(function):
        if isinstance(node, ast.Assign):
            paths = {path_of(one) for one in node.targets + chosen(node.value)} - {None}
            met = [group for group in groups if group & paths]
            groups = [group for group in groups if group not in met] + [paths.union(*met)]
    return groups


class LoopsTest(unittest.TestCase):

    def wrong_rows(self, function):
        """The rows of loops that go over what they change."""
        groups = one_and_the_same(function)
        heads = [(node.lineno, node.iter, node.body + node.orelse) for node in ast.walk(function)
                 if isinstance(node, ast.For)]
        heads += [(node.elt.lineno, one.iter, [node.elt] + [test for other in node.generators for test in other.ifs])
                  for node in ast.walk(function) if isinstance(node, (ast.ListComp, ast.SetComp))
                  for one in node.generators]
        rows = []
        for row, head, body in heads:
            over = walked(head)
            over = over.union(*[group for group in groups if group & over])
            if over & changed(body):
                rows.append(row)
        return rows

    def test_nothing_is_changed_while_it_is_walked(self):
        for name, function in functions():
            self.assertEqual(self.wrong_rows(function), [], (name, function.name))

    def test_the_test(self):
        for text, wrong in (("for a in xs:\n  ys.append(a)\n xs = ys", True),
                            ("for a in xs:\n  ys.append(a)", False),
                            ("for a in list(xs):\n  ys.append(a)\n xs = ys", False),
                            ("for a in xs:\n  xs[0] = a", True),
                            ("for i, a in enumerate(xs[1:]):\n  xs.pop()", True),
                            ("for a in p.xs:\n  p.xs.pop()", True),
                            ("for a in xs or ys:\n  del ys[0]", True),
                            ("zs = xs if a else ys\n for a in zs:\n  ys += [1]", True),
                            ("zs = [xs.pop() for a in xs]", True),
                            ("for a in d.items():\n  d.clear()", True)):
            rows = self.wrong_rows(ast.parse("def f(xs, ys, d, p):\n " + text).body[0])
            self.assertEqual(bool(rows), wrong, text)

    def test_generators(self):
        """The interface itself has several generators called by_number; no other generator's name is used twice."""
        yielding = [node for _, node in functions() if any(isinstance(one, (ast.Yield, ast.YieldFrom))
                                                           for one in ast.walk(node))]
        every = [node.name for _, node in functions()]
        for node in yielding:
            self.assertNotIn(node.name, METHODS)
            if node.name != "by_number":
                self.assertEqual(every.count(node.name), 1, node.name)
        self.assertEqual([node.name for _, node in functions() if node.name == "by_number"],
                         [node.name for node in yielding if node.name == "by_number"])


class NamesTest(unittest.TestCase):

    def test_builtins(self):
        for name, node in nodes(ast.Name):
            if isinstance(node.ctx, ast.Load) and hasattr(builtins, node.id):
                self.assertIn(node.id, BUILTINS, (name, node.lineno))

    def test_own_names(self):
        for path, tree in trees():
            taken = {alias.name for node in tree.body if isinstance(node, ast.ImportFrom) for alias in node.names}
            taken |= {node.name for node in tree.body if isinstance(node, ast.ClassDef)}
            for node in ast.walk(tree):
                if isinstance(node, ast.FunctionDef):
                    names = bound_names(node)
                    self.assertFalse(names & taken, (path.name, node.name))
                    self.assertFalse([name for name in names if hasattr(builtins, name)], (path.name, node.name))

    def test_methods(self):
        own = {node.name for _, node in nodes(ast.FunctionDef)}
        for name, node in nodes(ast.Call):
            if isinstance(node.func, ast.Attribute):
                self.assertIn(node.func.attr, METHODS | own | {"__init__"}, (name, node.lineno))

    def test_caught_errors(self):
        for name, node in nodes(ast.ExceptHandler):
            self.assertIsNotNone(node.type, (name, node.lineno))


if __name__ == "__main__":
    unittest.main()
