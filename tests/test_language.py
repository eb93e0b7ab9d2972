"""Looks for code in the package that is outside the subset of Python in which it is written."""

import ast
import builtins
import pathlib
import re
import unittest

PACKAGE = pathlib.Path(__file__).resolve().parent.parent / "heardlate"
LIBRARY = {
    "heapq": {"heappush", "heappop", "heapify", "heapreplace", "heappushpop"},
    "math": {"gcd", "lcm", "isqrt", "comb", "perm", "factorial"},
    "itertools": {
        "product", "combinations", "permutations", "chain", "accumulate", "pairwise", "islice", "zip_longest",
    },
    "collections": {"defaultdict", "deque"},
    "__future__": {"annotations"},
}
BUILTINS = set(
    "len range enumerate zip min max sum abs sorted reversed int str bool bytes list tuple dict set frozenset "
    "isinstance ord repr any all divmod pow getattr hasattr setattr iter next map type super property staticmethod "
    "classmethod Exception ValueError TypeError KeyError IndexError LookupError ZeroDivisionError ArithmeticError "
    "OverflowError RuntimeError NotImplementedError AttributeError StopIteration NotImplemented".split()
)
BARRED = re.compile(
    r"\b(mro|elements|open|input|law|version_info|with_traceback|add_note|eval|exec|compile|globals|locals|vars|dir"
    r"|typing|enum|Enum|Generic|Protocol|ABC|namedtuple|NamedTuple)\b|dataclass|overload"
)
STATEMENTS = (ast.Import, ast.ImportFrom, ast.FunctionDef, ast.ClassDef, ast.Assign, ast.Expr)
AT_ONCE = {"list", "tuple", "dict", "join"}
GOING_OVER = (ast.For, ast.comprehension, ast.YieldFrom)


def files():
    return sorted(path for path in PACKAGE.rglob("*") if "__pycache__" not in path.parts)


def trees():
    for path in files():
        if path.suffix == ".py":
            yield path, ast.parse(path.read_text())


def nodes(*kinds):
    for path, tree in trees():
        for node in ast.walk(tree):
            if isinstance(node, kinds):
                yield f"{path.name}:{getattr(node, 'lineno', 0)}", node


def bound_names(tree):
    """The names that a tree gives a meaning, but attributes and methods."""
    methods = set()
    for node in ast.walk(tree):
        if isinstance(node, ast.ClassDef):
            methods.update(id(part) for part in node.body)
    for node in ast.walk(tree):
        if isinstance(node, (ast.FunctionDef, ast.ClassDef)) and id(node) not in methods:
            yield node.name
        elif isinstance(node, ast.arg):
            yield node.arg
        elif isinstance(node, ast.Name) and not isinstance(node.ctx, ast.Load):
            yield node.id
        elif isinstance(node, ast.alias):
            yield node.asname or node.name


class Language(unittest.TestCase):
    def test_files(self):
        for path in files():
            if path.is_dir():
                self.assertTrue((path / "__init__.py").is_file(), path)
            else:
                self.assertRegex(path.name, r"^[a-z0-9_]+\.py$")

    def test_sizes_and_characters(self):
        for path in files():
            if path.is_file():
                text = path.read_text()
                self.assertLessEqual(len(text.splitlines()), 399, path)
                self.assertTrue(all(sign == "\n" or " " <= sign <= "~" for sign in text), path)
                self.assertTrue(all(len(line) <= 120 for line in text.splitlines()), path)
        for place, node in nodes(ast.FunctionDef):
            self.assertLessEqual(node.end_lineno - node.lineno, 39, place)

    def test_module_level(self):
        for path, tree in trees():
            for node in tree.body:
                self.assertIsInstance(node, STATEMENTS, f"{path}:{node.lineno}")
                if isinstance(node, ast.Expr):
                    self.assertIs(type(node.value), ast.Constant, f"{path}:{node.lineno}")
            names = [node.name for node in tree.body if isinstance(node, (ast.FunctionDef, ast.ClassDef))]
            self.assertEqual(len(names), len(set(names)), path)

    def test_imports(self):
        for place, node in nodes(ast.Import):
            self.fail(place)
        for place, node in nodes(ast.ImportFrom):
            self.assertEqual(node.level, 0, place)
            for alias in node.names:
                self.assertIsNone(alias.asname, place)
                if node.module in LIBRARY:
                    self.assertIn(alias.name, LIBRARY[node.module], place)
                else:
                    path = PACKAGE.parent / (node.module.replace(".", "/") + ".py")
                    defined = [getattr(part, "name", None) for part in ast.parse(path.read_text()).body]
                    for part in ast.parse(path.read_text()).body:
                        if isinstance(part, ast.Assign):
                            defined += [target.id for target in part.targets]
                    self.assertTrue(node.module.startswith("heardlate."), place)
                    self.assertIn(alias.name, defined, place)

    def test_no_file_is_imported_in_a_circle(self):
        imports = {}
        for path, tree in trees():
            name = ".".join(path.relative_to(PACKAGE.parent).with_suffix("").parts)
            imports[name] = [node.module for node in ast.walk(tree) if isinstance(node, ast.ImportFrom)]
        while imports:
            ready = [name for name in imports if not any(other in imports for other in imports[name])]
            self.assertNotEqual(ready, [], imports)
            for name in ready:
                del imports[name]

    def test_kinds_of_nodes(self):
        barred = (ast.Global, ast.AsyncFunctionDef, ast.Await, ast.Div, ast.MatMult, ast.TryStar)
        for place, _ in nodes(*barred):
            self.fail(place)
        for place, node in nodes(ast.Constant):
            self.assertNotIsInstance(node.value, (float, complex), place)

    def test_sets_and_generator_expressions_are_used_at_once(self):
        for path, tree in trees():
            users = {id(part): node for node in ast.walk(tree) for part in ast.iter_child_nodes(node)}
            for node in ast.walk(tree):
                user = users.get(id(node))
                called = getattr(getattr(user, "func", None), "id", getattr(getattr(user, "func", None), "attr", ""))
                if isinstance(node, (ast.Set, ast.SetComp)) or getattr(getattr(node, "func", 0), "id", "") == "set":
                    kept = isinstance(user, (ast.Assign, ast.Compare, ast.BinOp))
                    self.assertTrue(kept or called in ("sorted", "len"), f"{path}:{node.lineno}")
                if isinstance(node, ast.GeneratorExp):
                    self.assertIn(called, AT_ONCE, f"{path}:{node.lineno}")

    def test_generators_are_iterated_at_once(self):
        yielding = set()
        for _, node in nodes(ast.FunctionDef):
            if any(isinstance(part, (ast.Yield, ast.YieldFrom)) for part in ast.walk(node)):
                yielding.add(node.name)
        for path, tree in trees():
            users = {id(part): node for node in ast.walk(tree) for part in ast.iter_child_nodes(node)}
            for node in ast.walk(tree):
                if isinstance(node, ast.Name) and node.id in yielding:
                    call = users[id(node)]
                    self.assertTrue(isinstance(call, ast.Call) and call.func is node, f"{path}:{node.lineno}")
                    user = users[id(call)]
                    called = getattr(getattr(user, "func", None), "id", "")
                    self.assertTrue(isinstance(user, GOING_OVER) or called in AT_ONCE, f"{path}:{node.lineno}")

    def test_builtins(self):
        for path, tree in trees():
            names = set(bound_names(tree))
            self.assertEqual(sorted(name for name in names if hasattr(builtins, name)), [], path)
            read = {node.id for node in ast.walk(tree) if isinstance(node, ast.Name)}
            self.assertEqual(sorted(name for name in read if hasattr(builtins, name) and name not in BUILTINS), [], path)

    def test_words(self):
        for place, node in nodes(ast.Name, ast.arg, ast.FunctionDef, ast.ClassDef, ast.Attribute, ast.keyword):
            for field in ("id", "arg", "name", "attr"):
                word = getattr(node, field, None)
                if isinstance(word, str):
                    self.assertIsNone(BARRED.search(word), place)
                    self.assertTrue(not word.startswith("__") or word.endswith("__"), place)

    def test_decorators_and_handlers(self):
        for place, node in nodes(ast.FunctionDef):
            for decorator in node.decorator_list:
                word = getattr(decorator, "id", getattr(decorator, "attr", ""))
                self.assertIn(word, ("property", "setter", "staticmethod", "classmethod"), place)
        for place, node in nodes(ast.ExceptHandler):
            self.assertIsNotNone(node.type, place)


if __name__ == "__main__":
    unittest.main()
