"""The rules for the package's files that can be read off their lines: sizes, signs, imports."""

import ast
import builtins
import io
import re
import tokenize
import unittest
from pathlib import Path

PACKAGE = Path(__file__).resolve().parent.parent / "bentcoin"
LIBRARY = {
    "heapq": {"heappush", "heappop", "heapify", "heapreplace", "heappushpop"},
    "math": {"gcd", "lcm", "isqrt", "comb", "perm", "factorial"},
    "itertools": {
        "product", "combinations", "permutations", "chain", "accumulate", "pairwise", "islice",
        "zip_longest",
    },
    "collections": {"defaultdict", "deque"},
}

BUILTINS = set("""
len range enumerate zip min max sum abs sorted reversed int str bool list tuple dict set isinstance ord repr any
all divmod map Exception ValueError TypeError KeyError IndexError LookupError ZeroDivisionError ArithmeticError
OverflowError RuntimeError NotImplementedError
""".split())
METHODS = set("""
append clear copy count endswith extend find get index insert isalnum isalpha isdigit islower isspace isupper
items join keys ljust lower lstrip partition pop remove replace reverse rfind rjust rpartition rsplit rstrip
setdefault split splitlines startswith strip update upper values zfill bit_length removeprefix removesuffix add
discard
""".split())
BARRED_NAMES = set("""
register mro elements open input law version_info with_traceback add_note attrgetter breakpoint builtins compile
copyright credits delattr dir eval exec exit gc getattr globals hasattr help id importlib license locals
methodcaller os quit setattr super type vars sys
""".split())
BARRED_WORDS = set("""
type typing typing_extensions enum Enum IntEnum StrEnum Flag IntFlag Generic Protocol ABC ABCMeta namedtuple
NamedTuple TypedDict TYPE_CHECKING abstractmethod
""".split())


class Files(unittest.TestCase):

    def setUp(self):
        paths = [p for p in PACKAGE.rglob("*") if "__pycache__" not in p.parts]
        self.assertTrue(all(p.is_dir() or p.suffix == ".py" for p in paths))
        self.texts = {p.name: p.read_text("utf-8") for p in paths if p.suffix == ".py"}
        self.assertIn("__init__.py", self.texts)

    def test_lines_and_signs(self):
        for name, text in self.texts.items():
            lines = text.split("\n")
            self.assertLessEqual(len(lines), 399, name)
            for at, line in enumerate(lines):
                self.assertLessEqual(len(line), 120, (name, at))
                self.assertTrue(all(" " <= sign <= "~" for sign in line), (name, at))

    def test_functions_are_short(self):
        for name, text in self.texts.items():
            for node in ast.walk(ast.parse(text)):
                if isinstance(node, ast.FunctionDef):
                    self.assertLessEqual(node.end_lineno - node.lineno + 1, 40, (name, node.name))

    def test_imports(self):
        for name, text in self.texts.items():
            for node in ast.walk(ast.parse(text)):
                self.assertFalse(isinstance(node, ast.Import) and name != "__main__.py", name)
                if isinstance(node, ast.ImportFrom):
                    self.check_import(name, node)

    def check_import(self, name, node):
        self.assertEqual(node.level, 0, name)
        if node.module in LIBRARY:
            self.assertTrue({alias.name for alias in node.names} <= LIBRARY[node.module], name)
        elif node.module != "__future__":
            self.assertTrue(node.module.startswith("bentcoin."), (name, node.module))

    def test_imported_names_are_used(self):
        for name, text in self.texts.items():
            tree = ast.parse(text)
            used = {node.id for node in ast.walk(tree) if isinstance(node, ast.Name)}
            for node in ast.walk(tree):
                if isinstance(node, ast.ImportFrom):
                    self.assertTrue({alias.name for alias in node.names} <= used, (name, node.lineno))

    def test_names_of_builtins_and_imports_are_not_assigned(self):
        for name, text in self.texts.items():
            tree = ast.parse(text)
            taken = set(dir(builtins))
            for node in tree.body:
                if isinstance(node, ast.ImportFrom):
                    taken |= {alias.name for alias in node.names}
                elif isinstance(node, (ast.FunctionDef, ast.ClassDef)):
                    taken.add(node.name)
            for node in ast.walk(tree):
                if isinstance(node, ast.arg):
                    self.assertNotIn(node.arg, taken, (name, node.lineno))
                if isinstance(node, ast.Name) and isinstance(node.ctx, ast.Store):
                    self.assertNotIn(node.id, taken, (name, node.lineno))

    def test_no_float_no_division_and_no_power(self):
        for name, text in self.texts.items():
            for node in ast.walk(ast.parse(text)):
                self.assertNotIsInstance(node, (ast.Div, ast.Pow, ast.Mod), name)
                self.assertFalse(isinstance(node, ast.Constant) and isinstance(node.value, float))

    def test_builtins_and_methods(self):
        trees = {name: ast.parse(text) for name, text in self.texts.items()}
        nodes = [(name, node) for name, tree in trees.items() for node in ast.walk(tree)]
        own = {node.name for _, node in nodes if isinstance(node, (ast.FunctionDef, ast.ClassDef))}
        for name, node in nodes:
            if isinstance(node, ast.Name) and node.id in dir(builtins):
                self.assertIn(node.id, BUILTINS, (name, node.lineno))
            if isinstance(node, ast.Call) and isinstance(node.func, ast.Attribute):
                self.assertIn(node.func.attr, METHODS | own, (name, node.lineno))

    def test_barred_names_and_words(self):
        for name, text in self.texts.items():
            for node in ast.walk(ast.parse(text)):
                for attribute in ("id", "attr", "arg", "name"):
                    self.assertNotIn(getattr(node, attribute, None), BARRED_NAMES, (name, getattr(node, "lineno", 0)))
            for token in tokenize.generate_tokens(io.StringIO(text).readline):
                docstring = token.type == tokenize.STRING and token.string.startswith('"""')
                if token.type not in (tokenize.COMMENT, tokenize.NL) and not docstring:
                    self.assertFalse(set(re.findall(r"[A-Za-z_]+", token.string)) & BARRED_WORDS, (name, token.start))
                    self.assertNotIn("%", token.string, (name, token.start))

    def test_statements(self):
        barred = (
            ast.AsyncFunctionDef, ast.Global, ast.Nonlocal, ast.GeneratorExp, ast.Yield, ast.YieldFrom, ast.Await,
        )
        for name, text in self.texts.items():
            for node in ast.walk(ast.parse(text)):
                self.assertNotIsInstance(node, barred, name)
                if isinstance(node, ast.ExceptHandler):
                    self.assertIsInstance(node.type, ast.Name, name)
                if isinstance(node, (ast.FunctionDef, ast.ClassDef)):
                    self.assertEqual(node.decorator_list, [], name)

    def test_no_method_is_an_attribute(self):
        for name, text in self.texts.items():
            for node in ast.walk(ast.parse(text)):
                if isinstance(node, ast.ClassDef):
                    methods = {part.name for part in node.body if isinstance(part, ast.FunctionDef)}
                    stored = {
                        part.attr for part in ast.walk(node)
                        if isinstance(part, ast.Attribute) and isinstance(part.ctx, ast.Store)
                    }
                    self.assertFalse(methods & stored, name)

    def test_no_ring_of_imports(self):
        imports = {
            name.removesuffix(".py"): {
                node.module.removeprefix("bentcoin.") for node in ast.walk(ast.parse(text))
                if isinstance(node, ast.ImportFrom) and node.module.startswith("bentcoin.")
            }
            for name, text in self.texts.items()
        }
        while imports:
            free = [name for name in imports if not imports[name] & set(imports)]
            self.assertTrue(free, imports)
            for name in free:
                del imports[name]


if __name__ == "__main__":
    unittest.main()
