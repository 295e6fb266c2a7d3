"""The rules for the package's files that can be read off their lines: sizes, signs, imports."""

import ast
import builtins
import unittest
from pathlib import Path

PACKAGE = Path(__file__).resolve().parent.parent / "bentcoin"
LIBRARY = {
    "heapq": {"heappush", "heappop", "heapify", "heapreplace", "heappushpop"},
    "math": {"gcd", "lcm", "isqrt", "comb", "perm", "factorial"},
    "itertools": {
        "product", "combinations", "permutations", "chain", "accumulate", "pairwise", "islice",
        "zip_longest",
    },
    "collections": {"defaultdict", "deque"},
}


class Files(unittest.TestCase):

    def setUp(self):
        paths = [p for p in PACKAGE.rglob("*") if "__pycache__" not in p.parts]
        self.assertTrue(all(p.is_dir() or p.suffix == ".py" for p in paths))
        self.texts = {p.name: p.read_text("utf-8") for p in paths if p.suffix == ".py"}
        self.assertIn("__init__.py", self.texts)

    def test_lines_and_signs(self):
        for name, text in self.texts.items():
            lines = text.split("\n")
            self.assertLessEqual(len(lines), 399, name)
            for at, line in enumerate(lines):
                self.assertLessEqual(len(line), 120, (name, at))
                self.assertTrue(all(" " <= sign <= "~" for sign in line), (name, at))

    def test_functions_are_short(self):
        for name, text in self.texts.items():
            for node in ast.walk(ast.parse(text)):
                if isinstance(node, ast.FunctionDef):
                    self.assertLessEqual(node.end_lineno - node.lineno + 1, 40, (name, node.name))

    def test_imports(self):
        for name, text in self.texts.items():
            for node in ast.walk(ast.parse(text)):
                self.assertFalse(isinstance(node, ast.Import) and name != "__main__.py", name)
                if isinstance(node, ast.ImportFrom):
                    self.check_import(name, node)

    def check_import(self, name, node):
        self.assertEqual(node.level, 0, name)
        if node.module in LIBRARY:
            self.assertTrue({alias.name for alias in node.names} <= LIBRARY[node.module], name)
        elif node.module != "__future__":
            self.assertTrue(node.module.startswith("bentcoin."), (name, node.module))

    def test_imported_names_are_used(self):
        for name, text in self.texts.items():
            tree = ast.parse(text)
            used = {node.id for node in ast.walk(tree) if isinstance(node, ast.Name)}
            for node in ast.walk(tree):
                if isinstance(node, ast.ImportFrom):
                    self.assertTrue({alias.name for alias in node.names} <= used, (name, node.lineno))

    def test_names_of_builtins_and_imports_are_not_assigned(self):
        for name, text in self.texts.items():
            tree = ast.parse(text)
            taken = set(dir(builtins))
            for node in tree.body:
                if isinstance(node, ast.ImportFrom):
                    taken |= {alias.name for alias in node.names}
                elif isinstance(node, (ast.FunctionDef, ast.ClassDef)):
                    taken.add(node.name)
            for node in ast.walk(tree):
                if isinstance(node, ast.arg):
                    self.assertNotIn(node.arg, taken, (name, node.lineno))
                if isinstance(node, ast.Name) and isinstance(node.ctx, ast.Store):
                    self.assertNotIn(node.id, taken, (name, node.lineno))

    def test_no_float_and_no_division(self):
        for name, text in self.texts.items():
            for node in ast.walk(ast.parse(text)):
                self.assertNotIsInstance(node, ast.Div, name)
                self.assertFalse(isinstance(node, ast.Constant) and isinstance(node.value, float))


if __name__ == "__main__":
    unittest.main()
