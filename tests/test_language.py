"""Checks those rules for the files of the package that can be read off their text or their syntax tree."""

import ast
import unittest
from pathlib import Path

FOLDER = Path(__file__).resolve().parent.parent / "blockorder"
BUILTINS = {
    "len", "range", "enumerate", "zip", "min", "max", "sum", "abs", "sorted", "reversed", "int", "str", "bool",
    "list", "tuple", "dict", "set", "isinstance", "ord", "repr", "any", "all", "divmod", "ValueError", "super",
    "property",
}
NOT_ALLOWED = (ast.Global, ast.AsyncFunctionDef, ast.Import, ast.Div, ast.Await)


def files():
    return sorted(FOLDER.glob("*.py"))


class LanguageTest(unittest.TestCase):
    def test_folder_holds_nothing_but_files_of_the_package(self):
        others = [path.name for path in FOLDER.iterdir() if path.suffix != ".py" and path.name != "__pycache__"]
        self.assertEqual(others, [])
        self.assertIn("__init__.py", [path.name for path in files()])

    def test_characters_and_sizes(self):
        for path in files():
            text = path.read_text("utf-8")
            self.assertTrue(all(c == "\n" or " " <= c <= "~" for c in text), path.name)
            self.assertNotIn("%", text)
            lines = text.splitlines()
            self.assertLessEqual(len(lines), 399, path.name)
            self.assertLessEqual(max(len(line) for line in lines), 120, path.name)

    def test_functions_are_small_and_plain(self):
        for path in files():
            for node in ast.walk(ast.parse(path.read_text("utf-8"))):
                if isinstance(node, ast.FunctionDef):
                    self.assertLessEqual(node.end_lineno - node.lineno + 1, 40, node.name)
                    self.assertIn([ast.unparse(mark) for mark in node.decorator_list], ([], ["property"]), node.name)

    def test_names_and_statements(self):
        for path in files():
            tree = ast.parse(path.read_text("utf-8"))
            own = {node.name for node in ast.walk(tree) if isinstance(node, (ast.FunctionDef, ast.ClassDef))}
            own |= {alias.name for node in ast.walk(tree) if isinstance(node, ast.ImportFrom) for alias in node.names}
            for node in ast.walk(tree):
                self.assertNotIsInstance(node, NOT_ALLOWED, path.name)
                if isinstance(node, ast.Call) and isinstance(node.func, ast.Name):
                    self.assertIn(node.func.id, own | BUILTINS, path.name)

    def test_imports(self):
        seen = {}
        for path in files():
            nodes = [node for node in ast.walk(ast.parse(path.read_text("utf-8"))) if isinstance(node, ast.ImportFrom)]
            seen[f"blockorder.{path.stem}"] = [node.module for node in nodes]
        for module in seen:
            reached, waiting = set(), list(seen[module])
            while waiting:
                other = waiting.pop()
                self.assertIn(other, seen)
                if other not in reached:
                    reached.add(other)
                    waiting.extend(seen[other])
            self.assertNotIn(module, reached)


if __name__ == "__main__":
    unittest.main()
