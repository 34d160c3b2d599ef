"""The form of the package's files: what of the rules can be counted."""

import ast
import builtins
import unittest
from pathlib import Path

PACKAGE = Path(__file__).resolve().parent.parent / "eithersums"
LIBRARY = ("heapq", "math", "itertools", "collections", "__future__")


def files():
    """Return the path and the text of each file of the package."""
    paths = sorted([path for path in PACKAGE.rglob("*") if path.is_file() and "__pycache__" not in path.parts])
    return [(path, path.read_text(encoding="utf-8")) for path in paths]


class TestForm(unittest.TestCase):
    def test_only_python_files_and_no_tests(self):
        self.assertTrue(files())
        for path, _ in files():
            self.assertEqual(path.suffix, ".py", path)
            self.assertEqual(path.name, path.name.lower())
            self.assertFalse(path.name.startswith("test"), path)

    def test_characters_and_lines(self):
        for path, text in files():
            self.assertFalse([sign for sign in text if sign != "\n" and not " " <= sign <= "~"], path)
            lines = text.split("\n")
            self.assertLess(len(lines), 400, path)
            self.assertLessEqual(max([len(line) for line in lines]), 120, path)

    def test_functions_are_short(self):
        for path, text in files():
            for node in ast.walk(ast.parse(text)):
                if isinstance(node, ast.FunctionDef):
                    self.assertLessEqual(node.end_lineno - node.lineno + 1, 40, (path, node.name))

    def test_imports(self):
        for path, text in files():
            tree = ast.parse(text)
            for node in ast.walk(tree):
                self.assertNotIsInstance(node, ast.Import, path)
                if isinstance(node, ast.ImportFrom):
                    self.assertIn(node, tree.body, path)
                    self.assertEqual(node.level, 0, path)
                    self.assertIn(node.module.split(".")[0], ("eithersums", *LIBRARY), path)

    def test_names_that_are_taken(self):
        """No parameter or variable has the name of an import, a class or a builtin; nothing is imported for nothing."""
        for path, text in files():
            tree = ast.parse(text)
            imported = [part.name for node in tree.body if isinstance(node, ast.ImportFrom) for part in node.names]
            classes = [node.name for node in tree.body if isinstance(node, ast.ClassDef)]
            nodes = list(ast.walk(tree))
            given = [node.arg for node in nodes if isinstance(node, ast.arg)]
            stored = [node.id for node in nodes if isinstance(node, ast.Name) and isinstance(node.ctx, ast.Store)]
            # What begins with an underscore is there now and then: the examples leave a _ behind.
            taken = [*imported, *classes, *[name for name in dir(builtins) if not name.startswith("_")]]
            self.assertFalse(set(given + stored) & set(taken), path)
            self.assertFalse(set(imported) - set([node.id for node in nodes if isinstance(node, ast.Name)]), path)

    def test_what_does_not_go_with_own_equality(self):
        """A class with __eq__ and a method called add: no generators, no sorting in place, no sets that are kept."""
        barred = (ast.GeneratorExp, ast.Yield, ast.YieldFrom, ast.Set, ast.SetComp, ast.Match)
        for path, text in files():
            for node in ast.walk(ast.parse(text)):
                self.assertNotIsInstance(node, barred, path)
                self.assertFalse(isinstance(node, ast.Attribute) and node.attr == "sort", path)
                if isinstance(node, ast.Assign) and isinstance(node.value, ast.Call):
                    self.assertNotIn(getattr(node.value.func, "id", ""), ("set", "frozenset"), path)

    def test_words_left_out(self):
        barred = (ast.Global, ast.AsyncFunctionDef, ast.Await, ast.Div)
        for path, text in files():
            for node in ast.walk(ast.parse(text)):
                self.assertNotIsInstance(node, barred, path)
                self.assertFalse(isinstance(node, ast.Constant) and isinstance(node.value, (float, complex)), path)


if __name__ == "__main__":
    unittest.main()
