"""The rules of the language that can be seen in the files of the package, and [2]: no clock, file or network."""

import ast
import builtins
import pathlib
import re
import unittest

PACKAGE = pathlib.Path(__file__).resolve().parent.parent / "everyorder"
FILES = sorted(PACKAGE.rglob("*.py"))
TREES = {path: ast.parse(path.read_text(encoding="utf-8")) for path in FILES}

# L2: what may be imported besides the package's own names.
LIBRARY = {
    "heapq": "heappush heappop heapify heapreplace heappushpop",
    "math": "gcd lcm isqrt comb perm factorial",
    "itertools": "product combinations permutations chain accumulate pairwise islice zip_longest",
    "collections": "defaultdict deque",
    "__future__": "annotations",
}
# L8, L23: the builtins that are used.
BUILTINS = set("""
len range enumerate zip min max sum abs sorted reversed int str bool list tuple dict set frozenset isinstance ord
repr any all divmod pow getattr hasattr setattr iter next map type object property staticmethod classmethod super
Exception ValueError TypeError KeyError IndexError LookupError ZeroDivisionError ArithmeticError OverflowError
RuntimeError NotImplementedError AttributeError StopIteration NotImplemented
""".split())
# L19: the errors of Python's own that are caught.
CAUGHT = {"KeyError", "ZeroDivisionError", "StopIteration", "ValueError", "LookupError", "IndexError"}
# L25, L2: the methods of builtin values, and of what the library gives.
METHODS = set("""
append clear copy count endswith extend find get index insert isalnum isalpha isdigit islower isspace isupper items
join keys ljust lower lstrip partition pop remove replace reverse rfind rjust rpartition rsplit rstrip setdefault split
splitlines startswith strip update upper values zfill bit_length title capitalize swapcase casefold center expandtabs
removeprefix removesuffix rindex isascii isdecimal isnumeric istitle isidentifier isprintable translate add discard
appendleft popleft extendleft rotate format sort from_iterable
""".split())
SPECIAL = set("""
__init__ __eq__ __repr__ __str__ __len__ __enter__ __exit__ __call__ __iter__ __lt__ __le__ __gt__ __ge__ __ne__
__add__ __sub__ __mul__ __floordiv__ __mod__ __pow__ __and__ __or__ __xor__ __lshift__ __rshift__ __neg__ __pos__
__invert__ __abs__ __bool__ __contains__ __getitem__ __setitem__
""".split())


def nodes_of(kinds):
    """All nodes of these kinds, each with its file."""
    return [(path.name, node) for path, tree in TREES.items() for node in ast.walk(tree) if isinstance(node, kinds)]


def docstrings_of(tree):
    told = []
    for node in ast.walk(tree):
        if isinstance(node, (ast.Module, ast.ClassDef, ast.FunctionDef)) and node.body:
            first = node.body[0]
            if isinstance(first, ast.Expr) and isinstance(first.value, ast.Constant):
                told.append(first.value)
    return told


def bound_names(node):
    """The names that a statement at module level binds."""
    if isinstance(node, (ast.FunctionDef, ast.ClassDef)):
        return [node.name]
    if isinstance(node, ast.ImportFrom):
        return [alias.asname or alias.name for alias in node.names]
    if isinstance(node, ast.Assign):
        return [target.id for target in node.targets]
    return []


class FileTest(unittest.TestCase):
    def test_the_folder_holds_python_files_alone(self):
        for path in PACKAGE.rglob("*"):
            if "__pycache__" not in path.parts and path.is_file():
                self.assertRegex(path.name, r"\A[a-z0-9_]+\.py\Z")
        self.assertIn(PACKAGE / "__init__.py", FILES)
        self.assertFalse([path for path in FILES if path.name.startswith(("test", "conftest", "law_"))])

    def test_sizes_and_characters(self):
        for path in FILES:
            text = path.read_bytes().decode("ascii")
            self.assertRegex(text, r"\A[ -~\n]*\Z", path)
            lines = text.split("\n")
            self.assertLessEqual(len(lines), 400, path)
            for number, line in enumerate(lines, start=1):
                self.assertLessEqual(len(line), 120, (path, number))

    def test_functions_have_at_most_forty_lines(self):
        for name, node in nodes_of(ast.FunctionDef):
            self.assertLessEqual(node.end_lineno - node.lineno + 1, 40, (name, node.name))


class ImportTest(unittest.TestCase):
    def test_imports_name_the_file_that_defines(self):
        for name, node in nodes_of((ast.Import, ast.ImportFrom)):
            with self.subTest(name=name, line=node.lineno):
                self.assertIsInstance(node, ast.ImportFrom)
                self.assertEqual(node.level, 0)
                names = [alias.name for alias in node.names]
                if node.module in LIBRARY:
                    self.assertLessEqual(set(names), set(LIBRARY[node.module].split()))
                else:
                    folder, _, module = node.module.partition(".")
                    self.assertEqual(folder, "everyorder")
                    tree = TREES[PACKAGE / f"{module}.py"]
                    defined = [bound for each in tree.body if not isinstance(each, ast.ImportFrom)
                               for bound in bound_names(each)]
                    self.assertLessEqual(set(names), set(defined))

    def test_no_two_files_import_from_each_other(self):
        beneath = {path.stem: {node.module.partition(".")[2] for node in ast.walk(tree)
                               if isinstance(node, ast.ImportFrom) and node.module.startswith("everyorder.")}
                   for path, tree in TREES.items()}
        left = dict(beneath)
        while left:
            free = [module for module in left if not left[module] & set(left)]
            self.assertTrue(free, f"these import in a ring: {sorted(left)}")
            for module in free:
                del left[module]


class StatementTest(unittest.TestCase):
    def test_module_level(self):
        for path, tree in TREES.items():
            names = []
            for at, node in enumerate(tree.body):
                if at == 0 and isinstance(node, ast.Expr):
                    self.assertIsInstance(node.value.value, str)
                    continue
                self.assertIsInstance(node, (ast.ImportFrom, ast.FunctionDef, ast.ClassDef, ast.Assign), path)
                names.extend(bound_names(node))
                if isinstance(node, ast.Assign):
                    self.assertEqual(len(node.targets), 1)
                    for part in ast.walk(node.value):
                        self.assertNotIsInstance(part, (ast.Call, ast.ListComp, ast.Set, ast.Lambda))
            self.assertEqual(len(names), len(set(names)), path)

    def test_statements_that_are_not_let(self):
        barred = (ast.AsyncFunctionDef, ast.AsyncFor, ast.AsyncWith, ast.Await, ast.Import, ast.Div)
        self.assertEqual(nodes_of(barred), [])

    def test_decorators(self):
        for name, node in nodes_of((ast.FunctionDef, ast.ClassDef)):
            for decorator in node.decorator_list:
                told = ast.unparse(decorator)
                self.assertRegex(told, r"\A(property|staticmethod|classmethod|\w+\.setter)\Z", (name, node.lineno))

    def test_special_methods(self):
        for name, node in nodes_of(ast.FunctionDef):
            if node.name.startswith("__"):
                plain = re.sub(r"\A__[ri](?=(add|sub|mul|floordiv|mod|and|or|xor|lshift|rshift)__)", "__", node.name)
                self.assertIn(plain, SPECIAL, name)

    def test_errors_are_caught_by_name(self):
        for name, node in nodes_of(ast.ExceptHandler):
            self.assertIsNotNone(node.type, name)
            for caught in ast.walk(node.type):
                if isinstance(caught, ast.Name) and hasattr(builtins, caught.id):
                    self.assertIn(caught.id, CAUGHT, name)

    def test_errors_are_raised_on_the_spot(self):
        for name, node in nodes_of(ast.Raise):
            if node.exc is not None:
                self.assertIsInstance(node.exc, ast.Call, (name, node.lineno))
                self.assertIsInstance(node.exc.func, ast.Name, (name, node.lineno))


class NameTest(unittest.TestCase):
    def test_builtins(self):
        for name, node in nodes_of(ast.Name):
            if isinstance(node.ctx, ast.Load) and hasattr(builtins, node.id):
                self.assertIn(node.id, BUILTINS, (name, node.lineno))

    def test_nothing_has_the_name_of_a_builtin(self):
        methods = [node for _, each in nodes_of(ast.ClassDef) for node in each.body]
        for name, node in nodes_of((ast.Name, ast.arg, ast.FunctionDef, ast.ClassDef)):
            if isinstance(node, ast.Name) and isinstance(node.ctx, ast.Load):
                continue
            told = getattr(node, "id", getattr(node, "arg", getattr(node, "name", None)))
            if any(node is method for method in methods):
                self.assertNotIn(told, BUILTINS, (name, node.lineno))
            else:
                self.assertFalse(hasattr(builtins, told), (name, node.lineno, told))
            self.assertRegex(told, r"\A(_?[A-Za-z][A-Za-z0-9_]*|_|__[a-z]+__)\Z", (name, node.lineno))

    def test_no_local_name_is_that_of_a_class_or_an_import(self):
        for path, tree in TREES.items():
            outer = [bound for node in tree.body if isinstance(node, (ast.ClassDef, ast.ImportFrom))
                     for bound in bound_names(node)]
            for node in ast.walk(tree):
                if isinstance(node, ast.Name) and isinstance(node.ctx, ast.Store):
                    self.assertNotIn(node.id, outer, (path, node.lineno))
                if isinstance(node, ast.arg):
                    self.assertNotIn(node.arg, outer, (path, node.lineno))

    def test_methods_that_are_called(self):
        own = {node.name for _, node in nodes_of(ast.FunctionDef)}
        for name, node in nodes_of(ast.Call):
            if isinstance(node.func, ast.Attribute):
                self.assertIn(node.func.attr, METHODS | own, (name, node.lineno))

    def test_attributes_that_are_read_are_assigned(self):
        own = {node.name for _, node in nodes_of(ast.FunctionDef)}
        assigned = {node.attr for _, node in nodes_of(ast.Attribute) if isinstance(node.ctx, ast.Store)}
        for name, node in nodes_of(ast.Attribute):
            self.assertIn(node.attr, METHODS | own | assigned, (name, node.lineno))


class ValueTest(unittest.TestCase):
    def test_plain_values(self):
        for path, tree in TREES.items():
            docstrings = docstrings_of(tree)
            for node in ast.walk(tree):
                if isinstance(node, ast.Constant):
                    self.assertNotIsInstance(node.value, (float, complex), (path, node.lineno))
                    if isinstance(node.value, str) and not any(node is each for each in docstrings):
                        self.assertNotIn("%", node.value, (path, node.lineno))

    def test_generator_expressions(self):
        """Where a class has an __eq__, they stand in list, tuple, dict and join alone."""
        for name, node in nodes_of(ast.Call):
            for part in node.args:
                if isinstance(part, ast.GeneratorExp):
                    told = getattr(node.func, "id", getattr(node.func, "attr", None))
                    self.assertIn(told, ("list", "tuple", "dict", "join"), (name, node.lineno))

    def test_sets(self):
        """The package keeps no sets: it asks how many members one has, or for its members in order."""
        told = [part for _, node in nodes_of(ast.Call) if getattr(node.func, "id", None) in ("len", "sorted")
                for part in node.args]
        for name, node in nodes_of((ast.Call, ast.Set, ast.SetComp)):
            if not isinstance(node, ast.Call) or getattr(node.func, "id", None) in ("set", "frozenset"):
                self.assertTrue(any(node is part for part in told), (name, node.lineno))

    def test_what_is_added_to_in_place(self):
        """What an operator runs changes nothing; the package does without such statements altogether."""
        self.assertEqual(nodes_of((ast.AugAssign, ast.Global, ast.Nonlocal)), [])

    def test_is_beside_none_and_truth_alone(self):
        for name, node in nodes_of(ast.Compare):
            for sign, right in zip(node.ops, node.comparators):
                if isinstance(sign, (ast.Is, ast.IsNot)) and isinstance(right, ast.Constant):
                    self.assertTrue(right.value is None or isinstance(right.value, bool), (name, node.lineno))


if __name__ == "__main__":
    unittest.main()
