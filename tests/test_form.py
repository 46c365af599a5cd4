"""The form of the files of the package, as far as a short test can see it."""

import ast
import builtins
import pathlib
import re
import unittest

PACKAGE = pathlib.Path(__file__).resolve().parent.parent / "widestparcels"
LIBRARY = ("__future__", "collections", "heapq", "itertools", "math")
# L8, as far as the package needs it; property and staticmethod are decorators of L5.
BUILTINS = set(
    "len range enumerate zip min max sum abs sorted reversed int str bool list tuple dict set isinstance ord repr "
    "any all divmod ValueError TypeError KeyError IndexError LookupError ZeroDivisionError NotImplemented "
    "iter property staticmethod".split()
)
# L17, outside of comments and docstrings.
BARRED = (
    "type", "typing", "enum", "Enum", "Flag", "Generic", "Protocol", "ABC", "namedtuple", "NamedTuple", "TypedDict",
    "register", "mro", "elements", "input", "law", "eval", "exec", "globals", "locals", "vars", "super", "id",
)


class Form(unittest.TestCase):
    def test_the_package_holds_only_plain_files(self):
        found = [path.name for path in PACKAGE.iterdir() if path.name != "__pycache__"]
        self.assertIn("__init__.py", found)
        for name in found:
            self.assertRegex(name, r"\A[a-z_][a-z0-9_]*\.py\Z")

    def test_characters_and_lengths(self):
        for path in PACKAGE.glob("*.py"):
            text = path.read_bytes().decode("ascii")
            lines = text.splitlines()
            with self.subTest(path.name):
                self.assertTrue(all(sign == "\n" or " " <= sign <= "~" for sign in text))
                self.assertLessEqual(len(lines), 399)
                self.assertLessEqual(max(len(line) for line in lines), 120)

    def test_lengths_of_functions(self):
        for path in PACKAGE.glob("*.py"):
            for node in ast.walk(ast.parse(path.read_text())):
                if isinstance(node, ast.FunctionDef):
                    with self.subTest(path.name, function=node.name):
                        self.assertLessEqual(node.end_lineno - node.lineno + 1, 40)

    def test_imports(self):
        for path in PACKAGE.glob("*.py"):
            for node in ast.walk(ast.parse(path.read_text())):
                with self.subTest(path.name):
                    self.assertNotIsInstance(node, ast.Import)
                    if isinstance(node, ast.ImportFrom):
                        self.assertEqual(node.level, 0)
                        self.assertTrue(node.module in LIBRARY or node.module.startswith("widestparcels."))

    def test_builtins(self):
        for path in PACKAGE.glob("*.py"):
            for node in ast.walk(ast.parse(path.read_text())):
                if isinstance(node, ast.Name) and hasattr(builtins, node.id):
                    with self.subTest(path.name, line=node.lineno):
                        self.assertIsInstance(node.ctx, ast.Load)
                        self.assertIn(node.id, BUILTINS)
                if isinstance(node, ast.arg):
                    with self.subTest(path.name, line=node.lineno):
                        self.assertFalse(hasattr(builtins, node.arg))

    def test_barred_words(self):
        for path in PACKAGE.glob("*.py"):
            # To parse and unparse drops the comments; what is left of docstrings is plain words.
            text = ast.unparse(ast.parse(path.read_text()))
            for word in BARRED:
                with self.subTest(path.name, word=word):
                    self.assertIsNone(re.search(rf"\b{word}\b", text))

    def test_kinds_of_expressions(self):
        # any, all, sum and sorted take lists, because classes have __eq__ and operators.
        barred = (ast.GeneratorExp, ast.SetComp, ast.Div, ast.Global, ast.AsyncFunctionDef, ast.Await)
        for path in PACKAGE.glob("*.py"):
            for node in ast.walk(ast.parse(path.read_text())):
                with self.subTest(path.name, line=getattr(node, "lineno", None)):
                    self.assertNotIsInstance(node, barred)
                    if isinstance(node, ast.Constant):
                        self.assertNotIsInstance(node.value, (float, complex, bytes))
                        self.assertNotIn("%", str(node.value))

    def test_only_own_errors_are_caught(self):
        for path in PACKAGE.glob("*.py"):
            for node in ast.walk(ast.parse(path.read_text())):
                if isinstance(node, ast.ExceptHandler):
                    with self.subTest(path.name, line=node.lineno):
                        self.assertIsInstance(node.type, ast.Name)
                        self.assertFalse(hasattr(builtins, node.type.id))


if __name__ == "__main__":
    unittest.main()
