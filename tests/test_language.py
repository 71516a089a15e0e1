"""Rules of the language that a look at the files can check."""

import ast
import builtins
import unittest
from pathlib import Path

PACKAGE = Path(__file__).resolve().parent.parent / "saltmill"
FILES = sorted(path for path in PACKAGE.rglob("*.py"))
LIBRARY = {"heapq", "math", "itertools", "collections"}
ALLOWED_BUILTINS = {
    "len", "range", "enumerate", "zip", "min", "max", "sum", "abs", "sorted", "reversed", "int",
    "str", "bool", "bytes", "list", "tuple", "dict", "set", "isinstance", "ord", "repr", "any",
    "all", "divmod", "pow", "super", "property", "ValueError", "KeyError", "TypeError",
}
BARRED_CALLS = {"to_bytes", "fromhex", "sort", "format"}
BARRED_NODES = (ast.Global, ast.AsyncFunctionDef, ast.Await, ast.Div)


def trees():
    for path in FILES:
        text = path.read_text(encoding="utf-8")
        yield path.name, text, ast.parse(text)


def imported_names(tree):
    return {alias.name for node in ast.walk(tree) if isinstance(node, ast.ImportFrom)
            for alias in node.names}


def attribute_names(row):
    """The attributes that the methods of a class assign to their own object."""
    return {node.attr for node in ast.walk(row) if isinstance(node, ast.Attribute)
            and isinstance(node.ctx, ast.Store) and isinstance(node.value, ast.Name)
            and node.value.id == "self"}


def method_names(row):
    return [method.name for method in row.body if isinstance(method, ast.FunctionDef)]


def bound_names(tree):
    """The functions, classes, parameters and variables of a file, but not its methods."""
    methods = {row for node in ast.walk(tree) if isinstance(node, ast.ClassDef)
               for row in node.body}
    for node in ast.walk(tree):
        if isinstance(node, ast.ClassDef):
            yield node.name
        elif isinstance(node, ast.FunctionDef) and node not in methods:
            yield node.name
        elif isinstance(node, ast.arg):
            yield node.arg
        elif isinstance(node, ast.Name) and isinstance(node.ctx, ast.Store):
            yield node.id


class LanguageTest(unittest.TestCase):
    def test_files(self):
        self.assertTrue(FILES)
        for path in PACKAGE.rglob("*"):
            if "__pycache__" not in path.parts:
                self.assertTrue(path.suffix == ".py" or path.is_dir(), path)

    def test_sizes_and_characters(self):
        for name, text, tree in trees():
            lines = text.split("\n")
            self.assertLessEqual(len(lines), 400, name)
            for line in lines:
                self.assertLessEqual(len(line), 120, (name, line))
            for character in text:
                self.assertTrue(" " <= character <= "~" or character == "\n", (name, character))
            for node in ast.walk(tree):
                if isinstance(node, ast.FunctionDef):
                    self.assertLessEqual(node.end_lineno - node.lineno + 1, 40, (name, node.name))

    def test_imports(self):
        for name, _, tree in trees():
            for node in ast.walk(tree):
                self.assertNotIsInstance(node, ast.Import, name)
                if isinstance(node, ast.ImportFrom):
                    self.assertEqual(node.level, 0, name)
                    first = node.module.split(".")[0]
                    self.assertIn(first, LIBRARY | {"saltmill"}, name)
                    for alias in node.names:
                        self.assertNotEqual(alias.name, "*", name)

    def test_imports_name_the_file_that_defines(self):
        bound = {path.stem: tree for path, tree in
                 ((Path(name), tree) for name, _, tree in trees())}
        for name, tree in bound.items():
            for node in tree.body:
                if isinstance(node, ast.ImportFrom) and node.module.startswith("saltmill."):
                    own = set(bound_names(bound[node.module.split(".")[1]]))
                    for alias in node.names:
                        self.assertIn(alias.name, own, (name, node.module))

    def test_no_name_is_bound_twice(self):
        for name, _, tree in trees():
            imported = imported_names(tree)
            outside = [row.name for row in tree.body
                       if isinstance(row, (ast.FunctionDef, ast.ClassDef))]
            self.assertEqual(len(outside), len(set(outside)), name)
            self.assertEqual(imported & set(bound_names(tree)), set(), name)
            inside = {node.id for row in tree.body if isinstance(row, (ast.FunctionDef, ast.ClassDef))
                      for node in ast.walk(row)
                      if isinstance(node, ast.Name) and isinstance(node.ctx, ast.Store)}
            self.assertEqual(inside & set(outside), set(), name)

    def test_every_import_is_used(self):
        for name, _, tree in trees():
            used = {node.id for node in ast.walk(tree) if isinstance(node, ast.Name)}
            self.assertEqual(imported_names(tree) - used, set(), name)

    def test_methods_and_attributes_have_names_of_their_own(self):
        rows = [row for _, _, tree in trees() for row in tree.body if isinstance(row, ast.ClassDef)]
        attributes = {name for row in rows for name in attribute_names(row)}
        for row in rows:
            methods = method_names(row)
            self.assertEqual(len(methods), len(set(methods)), row.name)
            self.assertEqual(attributes & set(methods), set(), row.name)

    def test_builtins(self):
        for name, _, tree in trees():
            for bound in bound_names(tree):
                self.assertFalse(hasattr(builtins, bound), (name, bound))
            for node in ast.walk(tree):
                if isinstance(node, ast.Name) and hasattr(builtins, node.id):
                    self.assertIn(node.id, ALLOWED_BUILTINS, (name, node.lineno))
                if isinstance(node, ast.Attribute):
                    self.assertNotIn(node.attr, BARRED_CALLS, (name, node.lineno))

    def test_expressions(self):
        for name, _, tree in trees():
            for node in ast.walk(tree):
                self.assertNotIsInstance(node, BARRED_NODES, name)
                if isinstance(node, ast.Constant):
                    self.assertNotIsInstance(node.value, (float, complex), (name, node.lineno))
                    if isinstance(node.value, str):
                        self.assertNotIn("%", node.value, (name, node.lineno))
                if isinstance(node, ast.BinOp) and isinstance(node.op, ast.Pow):
                    self.assertIsInstance(node.right, ast.Constant, (name, node.lineno))
                    self.assertLessEqual(node.right.value, 64, (name, node.lineno))


if __name__ == "__main__":
    unittest.main()
