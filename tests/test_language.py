"""Looks for code in the package that is outside the subset of Python in which it is written."""

import ast
import builtins
import pathlib
import re
import unittest

PACKAGE = pathlib.Path(__file__).resolve().parent.parent / "heardlate"
LIBRARY = {
    "heapq": {"heappush", "heappop", "heapify", "heapreplace", "heappushpop"},
    "math": {"gcd", "lcm", "isqrt", "comb", "perm", "factorial"},
    "itertools": {
        "product", "combinations", "permutations", "chain", "accumulate", "pairwise", "islice", "zip_longest",
    },
    "collections": {"defaultdict", "deque"},
    "__future__": {"annotations"},
}
BUILTINS = set(
    "len range enumerate zip min max sum abs sorted reversed int str bool bytes list tuple dict set frozenset "
    "isinstance ord repr any all divmod pow getattr hasattr setattr iter next map type super property staticmethod "
    "classmethod Exception ValueError TypeError KeyError IndexError LookupError ZeroDivisionError ArithmeticError "
    "OverflowError RuntimeError NotImplementedError AttributeError StopIteration NotImplemented".split()
)
BARRED = re.compile(
    r"\b(mro|elements|open|input|law|version_info|with_traceback|add_note|eval|exec|compile|globals|locals|vars|dir"
    r"|typing|enum|Enum|Generic|Protocol|ABC|namedtuple|NamedTuple)\b|dataclass|overload"
)
STATEMENTS = (ast.Import, ast.ImportFrom, ast.FunctionDef, ast.ClassDef, ast.Assign, ast.Expr)
AT_ONCE = {"list", "tuple", "dict", "join"}
GOING_OVER = (ast.For, ast.comprehension, ast.YieldFrom)


def files():
    return sorted(path for path in PACKAGE.rglob("*") if "__pycache__" not in path.parts)


def trees():
    for path in files():
        if path.suffix == ".py":
            yield path, ast.parse(path.read_text())


def nodes(*kinds):
    for path, tree in trees():
        for node in ast.walk(tree):
            if isinstance(node, kinds):
                yield f"{path.name}:{getattr(node, 'lineno', 0)}", node


def bound_names(tree):
    """The names that a tree gives a meaning, but attributes and methods."""
    methods = set()
    for node in ast.walk(tree):
        if isinstance(node, ast.ClassDef):
            methods.update(id(part) for part in node.body)
    for node in ast.walk(tree):
        if isinstance(node, (ast.FunctionDef, ast.ClassDef)) and id(node) not in methods:
            yield node.name
        elif isinstance(node, ast.arg):
            yield node.arg
        elif isinstance(node, ast.Name) and not isinstance(node.ctx, ast.Load):
            yield node.id
        elif isinstance(node, ast.alias):
            yield node.asname or node.name


class Language(unittest.TestCase):
    def test_files(self):
        for path in files():
            if path.is_dir():
                self.assertTrue((path / "__init__.py").is_file(), path)
            else:
                self.assertRegex(path.name, r"^[a-z0-9_]+\.py$")

    def test_sizes_and_characters(self):
        for path in files():
            if path.is_file():
                text = path.read_text()
                self.assertLessEqual(len(text.splitlines()), 399, path)
                self.assertTrue(all(sign == "\n" or " " <= sign <= "~" for sign in text), path)
                self.assertTrue(all(len(line) <= 120 for line in text.splitlines()), path)
        for place, node in nodes(ast.FunctionDef):
            self.assertLessEqual(node.end_lineno - node.lineno, 39, place)

    def test_module_level(self):
        for path, tree in trees():
            for node in tree.body:
                self.assertIsInstance(node, STATEMENTS, f"{path}:{node.lineno}")
                if isinstance(node, ast.Expr):
                    self.assertIs(type(node.value), ast.Constant, f"{path}:{node.lineno}")
            names = [node.name for node in tree.body if isinstance(node, (ast.FunctionDef, ast.ClassDef))]
            self.assertEqual(len(names), len(set(names)), path)

    def test_imports(self):
        for place, node in nodes(ast.Import):
            self.fail(place)
        for place, node in nodes(ast.ImportFrom):
            self.assertEqual(node.level, 0, place)
            for alias in node.names:
                self.assertIsNone(alias.asname, place)
                if node.module in LIBRARY:
                    self.assertIn(alias.name, LIBRARY[node.module], place)
                else:
                    path = PACKAGE.parent / (node.module.replace(".", "/") + ".py")
                    defined = [getattr(part, "name", None) for part in ast.parse(path.read_text()).body]
                    for part in ast.parse(path.read_text()).body:
                        if isinstance(part, ast.Assign):
                            defined += [target.id for target in part.targets]
                    self.assertTrue(node.module.startswith("heardlate."), place)
                    self.assertIn(alias.name, defined, place)

    def test_no_file_is_imported_in_a_circle(self):
        imports = {}
        for path, tree in trees():
            name = ".".join(path.relative_to(PACKAGE.parent).with_suffix("").parts)
            imports[name] = [node.module for node in ast.walk(tree) if isinstance(node, ast.ImportFrom)]
        while imports:
            ready = [name for name in imports if not any(other in imports for other in imports[name])]
            self.assertNotEqual(ready, [], imports)
            for name in ready:
                del imports[name]

    def test_kinds_of_nodes(self):
        barred = (ast.Global, ast.AsyncFunctionDef, ast.Await, ast.Div, ast.MatMult, ast.TryStar)
        for place, _ in nodes(*barred):
            self.fail(place)
        for place, node in nodes(ast.Constant):
            self.assertNotIsInstance(node.value, (float, complex), place)

    def test_sets_and_generator_expressions_are_used_at_once(self):
        for path, tree in trees():
            users = {id(part): node for node in ast.walk(tree) for part in ast.iter_child_nodes(node)}
            for node in ast.walk(tree):
                user = users.get(id(node))
                called = getattr(getattr(user, "func", None), "id", getattr(getattr(user, "func", None), "attr", ""))
                if isinstance(node, (ast.Set, ast.SetComp)) or getattr(getattr(node, "func", 0), "id", "") == "set":
                    kept = isinstance(user, (ast.Assign, ast.Compare, ast.BinOp))
                    self.assertTrue(kept or called in ("sorted", "len"), f"{path}:{node.lineno}")
                if isinstance(node, ast.GeneratorExp):
                    self.assertIn(called, AT_ONCE, f"{path}:{node.lineno}")

    def test_generators_are_iterated_at_once(self):
        yielding = set()
        for _, node in nodes(ast.FunctionDef):
            if any(isinstance(part, (ast.Yield, ast.YieldFrom)) for part in ast.walk(node)):
                yielding.add(node.name)
        for path, tree in trees():
            users = {id(part): node for node in ast.walk(tree) for part in ast.iter_child_nodes(node)}
            for node in ast.walk(tree):
                if isinstance(node, ast.Name) and node.id in yielding:
                    call = users[id(node)]
                    self.assertTrue(isinstance(call, ast.Call) and call.func is node, f"{path}:{node.lineno}")
                    user = users[id(call)]
                    called = getattr(getattr(user, "func", None), "id", "")
                    self.assertTrue(isinstance(user, GOING_OVER) or called in AT_ONCE, f"{path}:{node.lineno}")

    def test_builtins(self):
        for path, tree in trees():
            names = set(bound_names(tree))
            self.assertEqual(sorted(name for name in names if hasattr(builtins, name)), [], path)
            read = {node.id for node in ast.walk(tree) if isinstance(node, ast.Name)}
            self.assertEqual(sorted(name for name in read if hasattr(builtins, name) and name not in BUILTINS), [], path)

    def test_words(self):
        for place, node in nodes(ast.Name, ast.arg, ast.FunctionDef, ast.ClassDef, ast.Attribute, ast.keyword):
            for field in ("id", "arg", "name", "attr"):
                word = getattr(node, field, None)
                if isinstance(word, str):
                    self.assertIsNone(BARRED.search(word), place)
                    self.assertTrue(not word.startswith("__") or word.endswith("__"), place)

    def test_decorators_and_handlers(self):
        for place, node in nodes(ast.FunctionDef):
            for decorator in node.decorator_list:
                word = getattr(decorator, "id", getattr(decorator, "attr", ""))
                self.assertIn(word, ("property", "setter", "staticmethod", "classmethod"), place)
        for place, node in nodes(ast.ExceptHandler):
            self.assertIsNotNone(node.type, place)

    def test_attributes_methods_and_properties_have_different_names(self):
        attributes, methods, properties = set(), set(), set()
        for _, node in nodes(ast.ClassDef):
            for part in node.body:
                if isinstance(part, ast.FunctionDef) and not part.name.startswith("__"):
                    words = [getattr(decorator, "id", getattr(decorator, "attr", "")) for decorator in part.decorator_list]
                    (properties if "property" in words or "setter" in words else methods).add(part.name)
        for _, node in nodes(ast.Attribute):
            if isinstance(node.ctx, ast.Store):
                attributes.add(node.attr)
        self.assertGreater(min(len(attributes), len(methods), len(properties)), 10)
        self.assertEqual(attributes & methods, set())
        self.assertEqual(attributes & properties, set())
        self.assertEqual(methods & properties, set())

    def test_local_names_are_not_those_of_imports_and_classes(self):
        for path, tree in trees():
            taken = {alias.name for node in ast.walk(tree) if isinstance(node, ast.ImportFrom) for alias in node.names}
            taken |= {node.name for node in ast.walk(tree) if isinstance(node, ast.ClassDef)}
            for node in ast.walk(tree):
                if isinstance(node, ast.arg):
                    self.assertNotIn(node.arg, taken, f"{path}:{node.lineno}")
                if isinstance(node, ast.Name) and isinstance(node.ctx, ast.Store):
                    self.assertNotIn(node.id, taken, f"{path}:{node.lineno}")

    def test_generators_have_names_of_their_own(self):
        yielding, others = [], []
        for _, node in nodes(ast.FunctionDef):
            is_generator = any(isinstance(part, (ast.Yield, ast.YieldFrom)) for part in ast.walk(node))
            (yielding if is_generator else others).append(node.name)
        self.assertEqual(sorted(set(yielding) & set(others)), [])
        for place, node in nodes(ast.Name, ast.arg):
            self.assertNotIn(getattr(node, "arg", None) or getattr(node, "id", None) if not is_read(node) else "", yielding, place)

    def test_double_underscore_methods(self):
        for place, node in nodes(ast.FunctionDef):
            returned = [part.value for part in ast.walk(node) if isinstance(part, ast.Return)]
            if node.name == "__len__":
                for value in returned:
                    self.assertEqual(getattr(getattr(value, "func", None), "id", ""), "len", place)
            if node.name == "__str__":
                for value in returned:
                    self.assertTrue(isinstance(value, ast.JoinedStr) or getattr(value.func, "id", "") == "str", place)
            if node.name == "__eq__":
                self.assertIn("isinstance", ast.unparse(node.body[0]), place)
            if node.name == "__exit__":
                for part in node.body:
                    self.assertTrue(isinstance(part, ast.Assign) and isinstance(part.value, ast.Attribute), place)
            if node.name == "__getitem__":
                classes = [part for _, part in nodes(ast.ClassDef) if node.lineno in [row.lineno for row in part.body]]
                self.assertTrue(any("__iter__" in [getattr(row, "name", "") for row in part.body] for part in classes), place)

    def test_what_is_raised_is_created_on_the_spot(self):
        for place, node in nodes(ast.Raise):
            self.assertTrue(isinstance(node.exc, ast.Call) and isinstance(node.exc.func, ast.Name), place)
        for place, node in nodes(ast.Compare):
            for sign, side in zip(node.ops, node.comparators):
                if isinstance(sign, (ast.Is, ast.IsNot)):
                    self.assertIn(getattr(side, "value", 0), (None, True, False), place)

    def test_strings(self):
        for place, node in nodes(ast.Constant):
            if isinstance(node.value, str):
                self.assertNotIn("%", node.value, place)
                self.assertNotIn("__", node.value, place)


def is_read(node):
    return isinstance(node, ast.Name) and isinstance(node.ctx, ast.Load)


if __name__ == "__main__":
    unittest.main()
