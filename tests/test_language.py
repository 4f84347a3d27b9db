"""The rules of the language that can be seen without running anything."""

import ast
import builtins
import unittest

from tests.test_interface import FOLDER, FUNCTIONS

MODULES = ["errors", *FUNCTIONS]
LIBRARY = {"math": {"gcd", "lcm"}}
# Lists stand for generator expressions, as any, all and sum need them once a class has an __eq__.
BARRED = (
    ast.Div, ast.Import, ast.AsyncFunctionDef, ast.AsyncFor, ast.AsyncWith, ast.Await, ast.Global, ast.GeneratorExp,
)


def files():
    return sorted(FOLDER.rglob("*.py"))


def tree_of(path):
    return ast.parse(path.read_text())


class LanguageTest(unittest.TestCase):

    def test_the_folder_holds_nothing_else(self):
        names = {path.name for path in FOLDER.iterdir() if path.name != "__pycache__"}
        self.assertEqual(names, {"__init__.py", *[f"{module}.py" for module in MODULES]})

    def test_sizes_and_signs(self):
        for path in files():
            text = path.read_text()
            self.assertTrue(text.isascii() and "\t" not in text and "\r" not in text, path)
            lines = text.split("\n")
            self.assertLessEqual(len(lines), 400, path)
            self.assertLessEqual(max(map(len, lines)), 120, path)
            for node in ast.walk(tree_of(path)):
                if isinstance(node, ast.FunctionDef):
                    self.assertLessEqual(node.end_lineno - node.lineno + 1, 40, (path, node.name))

    def test_imports(self):
        for at, module in enumerate(MODULES):
            for node in ast.walk(tree_of(FOLDER / f"{module}.py")):
                if isinstance(node, ast.ImportFrom):
                    self.assertEqual(node.level, 0)
                    names = {alias.name for alias in node.names}
                    if node.module in LIBRARY:
                        self.assertLessEqual(names, LIBRARY[node.module])
                    else:
                        # A module uses those above it, never one that stands below.
                        self.assertIn(node.module, [f"neverjammed.{name}" for name in MODULES[:at]])

    def test_module_level(self):
        for path in files():
            names = []
            for node in tree_of(path).body:
                self.assertIsInstance(node, (ast.Expr, ast.ImportFrom, ast.FunctionDef, ast.ClassDef, ast.Assign), path)
                if isinstance(node, ast.Expr):
                    self.assertIsInstance(node.value, ast.Constant)
                if isinstance(node, (ast.FunctionDef, ast.ClassDef)):
                    self.assertEqual(node.decorator_list, [])
                    names.append(node.name)
            self.assertEqual(len(names), len(set(names)))

    def test_names(self):
        for path in files():
            tree = tree_of(path)
            imported = {alias.name for node in ast.walk(tree) if isinstance(node, ast.ImportFrom) for alias in node.names}
            taken = imported | {node.name for node in tree.body if isinstance(node, ast.ClassDef)}
            taken |= {name for name in dir(builtins) if not name.startswith("_")}
            for node in ast.walk(tree):
                if isinstance(node, ast.Name) and isinstance(node.ctx, ast.Store):
                    self.assertNotIn(node.id, taken, path)
                elif isinstance(node, ast.arg):
                    self.assertNotIn(node.arg, taken, path)
                elif isinstance(node, ast.FunctionDef):
                    self.assertNotIn(node.name, taken, path)
                elif isinstance(node, ast.comprehension):
                    self.assertNotIn("_", [part.id for part in ast.walk(node.target) if isinstance(part, ast.Name)], path)
            used = {node.id for node in ast.walk(tree) if isinstance(node, ast.Name)}
            self.assertEqual(imported - used, set(), path)

    def test_what_does_not_occur(self):
        for path in files():
            for node in ast.walk(tree_of(path)):
                self.assertNotIsInstance(node, BARRED, (path, getattr(node, "lineno", 0)))
                if isinstance(node, ast.Constant):
                    self.assertNotIsInstance(node.value, (float, complex))


if __name__ == "__main__":
    unittest.main()
