"""The source of the package: what can be seen of its rules without running it."""

import ast
import builtins
import pathlib
import unittest

TOP = pathlib.Path(__file__).resolve().parent.parent / "touchshare"
IMPORTED = {
    "heapq": {"heappush", "heappop", "heapify", "heapreplace", "heappushpop"},
    "math": {"gcd", "lcm", "isqrt", "comb", "perm", "factorial"},
    "itertools": {"product", "combinations", "permutations", "chain", "accumulate", "pairwise", "islice",
                  "zip_longest"},
    "collections": {"defaultdict"},
}
CALLED = {
    "len", "range", "enumerate", "zip", "min", "max", "sum", "abs", "sorted", "reversed", "int", "str", "bool", "list",
    "tuple", "dict", "set", "isinstance", "ord", "repr", "any", "all", "divmod", "pow", "getattr", "hasattr",
    "setattr", "Exception", "ValueError", "TypeError", "KeyError", "IndexError", "LookupError", "ZeroDivisionError",
    "ArithmeticError", "OverflowError", "RuntimeError", "NotImplementedError", "AttributeError", "StopIteration",
    "NotImplemented", "iter", "next", "map", "super", "property", "staticmethod", "classmethod",
}
BARRED = {"register", "mro", "elements", "open", "input", "law", "credits", "copyright", "license", "exit", "quit", "id",
          "dir", "vars", "type", "help", "compile", "eval", "exec", "os", "gc"}


def parsed_files():
    return [(path, path.read_text(encoding="utf-8")) for path in sorted(TOP.rglob("*.py"))]


def bound_names(tree):
    """All names that a file gives a meaning, but those of methods."""
    methods = [node for owner in ast.walk(tree) if isinstance(owner, ast.ClassDef) for node in owner.body]
    for node in ast.walk(tree):
        if isinstance(node, (ast.FunctionDef, ast.ClassDef)) and node not in methods:
            yield node.name
        elif isinstance(node, ast.Name) and isinstance(node.ctx, ast.Store):
            yield node.id
        elif isinstance(node, ast.arg):
            yield node.arg


class Source(unittest.TestCase):
    def test_the_folder_has_plain_python_files_only(self):
        paths = [path for path in TOP.rglob("*") if "__pycache__" not in path.parts and path.is_file()]
        self.assertTrue((TOP / "__init__.py").is_file())
        self.assertEqual([path for path in paths if path.suffix != ".py" or path.name != path.name.lower()], [])

    def test_sizes_and_signs(self):
        for path, text in parsed_files():
            with self.subTest(path.name):
                self.assertTrue(all(sign == "\n" or " " <= sign <= "~" for sign in text))
                rows = text.splitlines()
                self.assertLessEqual(len(rows), 399)
                self.assertLessEqual(max(map(len, rows), default=0), 120)
                for node in ast.walk(ast.parse(text)):
                    if isinstance(node, ast.FunctionDef):
                        self.assertLessEqual(node.end_lineno - node.lineno + 1, 40, node.name)

    def test_imports_are_from_the_package_or_the_few_that_are_allowed(self):
        for path, text in parsed_files():
            for node in ast.walk(ast.parse(text)):
                with self.subTest(path.name):
                    self.assertNotIsInstance(node, ast.Import)
                    if isinstance(node, ast.ImportFrom):
                        names = {alias.name for alias in node.names}
                        self.assertEqual(node.level, 0)
                        self.assertTrue(node.module.startswith("touchshare.") and names != {"*"}
                                        or names <= IMPORTED.get(node.module, set()))

    def test_only_allowed_builtins_are_read(self):
        for path, text in parsed_files():
            for node in ast.walk(ast.parse(text)):
                if isinstance(node, ast.Name) and hasattr(builtins, node.id):
                    with self.subTest(path.name):
                        self.assertIn(node.id, CALLED)

    def test_names_are_free_ones(self):
        for path, text in parsed_files():
            for name in bound_names(ast.parse(text)):
                with self.subTest(path.name):
                    self.assertNotIn(name, BARRED)
                    self.assertFalse(hasattr(builtins, name), name)

    def test_nothing_is_made_bit_by_bit(self):
        for path, text in parsed_files():
            for node in ast.walk(ast.parse(text)):
                with self.subTest(path.name):
                    self.assertNotIsInstance(node, (ast.GeneratorExp, ast.Yield, ast.YieldFrom))
                    # A class has __eq__ and __len__: lists are sorted anew.
                    self.assertFalse(isinstance(node, ast.Attribute) and node.attr == "sort")

    def test_there_are_properties_and_no_other_decorators(self):
        for path, text in parsed_files():
            for node in ast.walk(ast.parse(text)):
                for decorator in getattr(node, "decorator_list", []):
                    with self.subTest(path.name):
                        self.assertEqual(ast.unparse(decorator), "property")

    def test_no_name_is_a_property_and_an_attribute(self):
        properties, assigned = set(), set()
        for _, text in parsed_files():
            for node in ast.walk(ast.parse(text)):
                if isinstance(node, ast.FunctionDef) and node.decorator_list:
                    properties.add(node.name)
                elif isinstance(node, ast.Attribute) and isinstance(node.ctx, ast.Store):
                    assigned.add(node.attr)
        self.assertEqual(properties & assigned, set())

    def test_there_are_no_floats_and_no_outside_state(self):
        for path, text in parsed_files():
            for node in ast.walk(ast.parse(text)):
                with self.subTest(path.name):
                    self.assertNotIsInstance(node, (ast.Div, ast.Global, ast.AsyncFunctionDef, ast.Await))
                    if isinstance(node, ast.Constant):
                        self.assertNotIsInstance(node.value, (float, complex))
                        self.assertFalse(isinstance(node.value, str) and "%" in node.value)


if __name__ == "__main__":
    unittest.main()
