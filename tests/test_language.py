"""Some of the rules of the language that the package is written in, as far as they are easily seen."""

import ast
import unittest
from pathlib import Path

PACKAGE = Path(__file__).resolve().parent.parent / "lacuna"
FILES = sorted(path for path in PACKAGE.rglob("*") if "__pycache__" not in path.parts)
BUILTINS = (
    "len range enumerate zip min max sum abs sorted reversed int str bool list tuple dict set isinstance ord repr any "
    "all divmod type super"
).split()
METHODS = "append extend index pop get setdefault".split()


class Language(unittest.TestCase):
    def trees(self):
        for path in FILES:
            yield path, ast.parse(path.read_text("ascii"))

    def test_files(self):
        self.assertIn(PACKAGE / "__init__.py", FILES)
        for path in FILES:
            with self.subTest(path=path.name):
                self.assertEqual(path.suffix, ".py")
                text = path.read_text("ascii")
                self.assertNotIn("\t", text)
                lines = text.split("\n")
                self.assertLessEqual(len(lines), 400)
                self.assertLessEqual(max(len(line) for line in lines), 120)

    def test_imports(self):
        for path, tree in self.trees():
            for node in ast.walk(tree):
                if isinstance(node, (ast.Import, ast.ImportFrom)):
                    with self.subTest(path=path.name, line=node.lineno):
                        self.assertIsInstance(node, ast.ImportFrom)
                        self.assertEqual(node.level, 0)
                        self.assertTrue(node.module.startswith("lacuna."))

    def test_functions(self):
        for path, tree in self.trees():
            for node in ast.walk(tree):
                if isinstance(node, ast.FunctionDef):
                    with self.subTest(path=path.name, name=node.name):
                        self.assertLessEqual(node.end_lineno - node.lineno + 1, 40)
                        self.assertEqual(node.decorator_list, [])

    def methods(self):
        """The methods that the classes of the package have."""
        nodes = [node for _, tree in self.trees() for node in ast.walk(tree) if isinstance(node, ast.ClassDef)]
        return {inner.name for node in nodes for inner in node.body if isinstance(inner, ast.FunctionDef)}

    def test_what_is_called(self):
        methods = set(METHODS) | self.methods()
        for path, tree in self.trees():
            own = {node.name for node in ast.walk(tree) if isinstance(node, (ast.FunctionDef, ast.ClassDef))}
            own |= {name.name for node in ast.walk(tree) if isinstance(node, ast.ImportFrom) for name in node.names}
            own |= {node.arg for node in ast.walk(tree) if isinstance(node, ast.arg)}
            for node in ast.walk(tree):
                if not isinstance(node, ast.Call):
                    continue
                with self.subTest(path=path.name, line=node.lineno):
                    if isinstance(node.func, ast.Name):
                        self.assertIn(node.func.id, own | set(BUILTINS))
                    elif node.func.attr != "__init__":
                        self.assertIn(node.func.attr, methods)

    def test_values(self):
        for path, tree in self.trees():
            for node in ast.walk(tree):
                with self.subTest(path=path.name, line=getattr(node, "lineno", 0)):
                    self.assertNotIsInstance(node, (ast.Div, ast.Global, ast.AsyncFunctionDef, ast.Await))
                    if isinstance(node, ast.Constant):
                        self.assertNotIsInstance(node.value, (float, complex))


if __name__ == "__main__":
    unittest.main()
