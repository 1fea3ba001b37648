"""Checks those rules for the files of the package that can be read off their text or their syntax tree."""

import ast
import builtins
import re
import unittest
from pathlib import Path

FOLDER = Path(__file__).resolve().parent.parent / "blockorder"
BUILTINS = {
    "len", "range", "enumerate", "zip", "min", "max", "sum", "abs", "sorted", "reversed", "int", "str", "bool",
    "list", "tuple", "dict", "set", "isinstance", "ord", "repr", "any", "all", "divmod", "ValueError", "super",
    "property", "cls",
}
METHODS = set(
    "append clear copy count endswith extend find get index insert isalnum isalpha isdigit islower isspace isupper "
    "items join keys ljust lower lstrip partition pop remove replace reverse rfind rjust rpartition rsplit rstrip "
    "setdefault split splitlines startswith strip update upper values zfill bit_length add discard".split()
)
LIBRARY = {"math": {"gcd", "lcm"}}
WORDS = (
    "type typing typing_extensions enum Enum IntEnum StrEnum Flag IntFlag Generic Protocol ABC ABCMeta namedtuple "
    "NamedTuple TypedDict TYPE_CHECKING abstractmethod"
).split()
NAMES = {"register", "mro", "elements", "open", "input", "law", "version_info", "with_traceback", "add_note"}
NOT_ALLOWED = (ast.Global, ast.AsyncFunctionDef, ast.Import, ast.Div, ast.Await, ast.Lambda, ast.GeneratorExp,
               ast.NamedExpr, ast.Nonlocal, ast.Match, ast.With, ast.Assert, ast.AnnAssign)


def files():
    return sorted(FOLDER.glob("*.py"))


def trees():
    return [(path.stem, ast.parse(path.read_text("utf-8"))) for path in files()]


def nodes(tree, *kinds):
    return [node for node in ast.walk(tree) if isinstance(node, kinds)]


def imported(tree):
    return {alias.name for node in nodes(tree, ast.ImportFrom) for alias in node.names}


class LanguageTest(unittest.TestCase):
    def test_folder_holds_nothing_but_files_of_the_package(self):
        others = [path.name for path in FOLDER.iterdir() if path.suffix != ".py" and path.name != "__pycache__"]
        self.assertEqual(others, [])
        self.assertIn("__init__.py", [path.name for path in files()])

    def test_characters_and_sizes(self):
        for path in files():
            text = path.read_text("utf-8")
            self.assertTrue(all(c == "\n" or " " <= c <= "~" for c in text), path.name)
            self.assertNotIn("%", text)
            lines = text.splitlines()
            self.assertLessEqual(len(lines), 399, path.name)
            self.assertLessEqual(max(len(line) for line in lines), 120, path.name)
            self.assertEqual([word for word in WORDS if re.search(rf"\b{word}\b", text)], [], path.name)

    def test_functions_are_small_and_plain(self):
        for name, tree in trees():
            for node in nodes(tree, ast.FunctionDef):
                self.assertLessEqual(node.end_lineno - node.lineno + 1, 40, node.name)
                marks = [ast.unparse(mark) for mark in node.decorator_list]
                self.assertIn(marks, ([], ["property"], ["classmethod"]), node.name)
                self.assertTrue(ast.get_docstring(node) or node.name == "__init__", node.name)
                self.assertEqual([inner.name for inner in nodes(node, ast.FunctionDef) if inner is not node], [])

    def test_names_and_statements(self):
        for name, tree in trees():
            own = {node.name for node in nodes(tree, ast.FunctionDef, ast.ClassDef)} | imported(tree)
            for node in ast.walk(tree):
                self.assertNotIsInstance(node, NOT_ALLOWED, name)
                if isinstance(node, ast.Call) and isinstance(node.func, ast.Name):
                    self.assertIn(node.func.id, own | BUILTINS, name)
                if isinstance(node, ast.Compare) and any(isinstance(sign, (ast.Is, ast.IsNot)) for sign in node.ops):
                    self.assertIn(ast.unparse(node.comparators[0]), ("None", "True", "False"))

    def test_names_that_are_not_used(self):
        for name, tree in trees():
            used = {node.id for node in nodes(tree, ast.Name)} | {node.arg for node in nodes(tree, ast.arg)}
            used |= {node.attr for node in nodes(tree, ast.Attribute)} | imported(tree)
            used |= {node.name for node in nodes(tree, ast.FunctionDef, ast.ClassDef)}
            self.assertEqual(used & NAMES, set(), name)
            self.assertEqual([word for word in used if word.startswith("__") and word != "__init__" and
                              word not in ("__eq__", "__str__")], [], name)

    def test_methods(self):
        own = {node.name for _, tree in trees() for node in nodes(tree, ast.FunctionDef)}
        for name, tree in trees():
            for node in nodes(tree, ast.Call):
                if isinstance(node.func, ast.Attribute):
                    self.assertIn(node.func.attr, own | METHODS, name)

    def test_variables_have_names_of_their_own(self):
        for name, tree in trees():
            taken = imported(tree) | {node.name for node in nodes(tree, ast.ClassDef)} | set(dir(builtins))
            bound = {node.id for node in nodes(tree, ast.Name) if isinstance(node.ctx, ast.Store)}
            bound |= {node.arg for node in nodes(tree, ast.arg)}
            bound |= {node.name for node in tree.body if isinstance(node, ast.FunctionDef)}
            self.assertEqual(bound & (taken - {"_"}), set(), name)

    def test_properties_and_attributes_have_different_names(self):
        classes = [node for _, tree in trees() for node in nodes(tree, ast.ClassDef)]
        functions = [node for one in classes for node in one.body if isinstance(node, ast.FunctionDef)]
        methods = {node.name for node in functions if not node.decorator_list}
        properties = {node.name for node in functions if [ast.unparse(m) for m in node.decorator_list] == ["property"]}
        values = {node.targets[0].id for one in classes for node in one.body if isinstance(node, ast.Assign)}
        stored = {node.attr for one in classes for node in nodes(one, ast.Attribute) if isinstance(node.ctx, ast.Store)}
        for some, others in ((methods, properties), (methods, stored), (properties, stored), (values, stored),
                             (values, methods | properties)):
            self.assertEqual(some & others, set())
        self.assertEqual((methods | properties) & METHODS, set())

    def test_errors_of_python_that_are_caught(self):
        caught = {ast.unparse(node.type) for _, tree in trees() for node in nodes(tree, ast.ExceptHandler)}
        self.assertLessEqual(caught, {"BlockorderError", "ValueError"})

    def test_imports(self):
        seen = {}
        for name, tree in trees():
            for node in nodes(tree, ast.ImportFrom):
                self.assertEqual(node.level, 0)
                if node.module in LIBRARY:
                    self.assertLessEqual({alias.name for alias in node.names}, LIBRARY[node.module])
            seen[f"blockorder.{name}"] = [node.module for node in nodes(tree, ast.ImportFrom)
                                          if node.module not in LIBRARY]
        for module in seen:
            reached, waiting = set(), list(seen[module])
            while waiting:
                other = waiting.pop()
                self.assertIn(other, seen)
                if other not in reached:
                    reached.add(other)
                    waiting.extend(seen[other])
            self.assertNotIn(module, reached)

    def test_each_import_is_used_and_comes_from_the_file_that_defines_it(self):
        defined = {f"blockorder.{name}": {node.name for node in tree.body
                                          if isinstance(node, (ast.FunctionDef, ast.ClassDef))}
                   for name, tree in trees()}
        for name, tree in trees():
            used = {node.id for node in nodes(tree, ast.Name)}
            self.assertLessEqual(imported(tree), used, name)
            for node in nodes(tree, ast.ImportFrom):
                if node.module not in LIBRARY:
                    self.assertLessEqual({alias.name for alias in node.names}, defined[node.module], name)


if __name__ == "__main__":
    unittest.main()
