"""The rules of form that a short program can see."""

import ast
import builtins
import pathlib
import re
import unittest
import warnings

TOP = pathlib.Path(__file__).resolve().parent.parent
FOLDER = TOP / "unwindrows"
CALLED = {
    "len", "range", "enumerate", "zip", "min", "max", "sum", "abs", "sorted", "reversed", "int", "str", "bool",
    "list", "tuple", "dict", "set", "frozenset", "isinstance", "ord", "repr", "any", "all", "divmod", "iter",
    "next", "map", "super", "property", "NotImplemented", "Exception", "ValueError", "TypeError", "KeyError",
    "IndexError", "LookupError", "ZeroDivisionError", "ArithmeticError", "OverflowError", "RuntimeError",
    "NotImplementedError", "AttributeError", "StopIteration",
}
BARRED = {
    "type", "typing", "enum", "Enum", "Generic", "Protocol", "ABC", "namedtuple", "dataclass", "overload",
    "contextmanager", "abstractmethod", "_wall", "_WallAttr",
}
NAMES_BARRED = {"register", "mro", "elements", "open", "input", "law", "exit", "id", "dir", "copyright", "help"}
LIBRARY = {"heapq", "math", "itertools"}
# A session that is tried out gives _ a meaning among the builtins.
BUILTINS = set(dir(builtins)) - {"_"}


def files():
    return sorted(FOLDER.glob("*.py"))


def trees():
    return [(file, ast.parse(file.read_text(encoding="utf-8"))) for file in files()]


def functions(tree):
    return [node for node in ast.walk(tree) if isinstance(node, ast.FunctionDef)]


class Form(unittest.TestCase):
    def test_the_folder_has_plain_files_only(self):
        for thing in FOLDER.iterdir():
            if thing.name != "__pycache__":
                self.assertRegex(thing.name, r"^([a-z][a-z0-9_]*|__init__)\.py$")
        self.assertTrue((FOLDER / "__init__.py").exists())

    def test_sizes_and_characters(self):
        for file in files():
            text = file.read_text(encoding="utf-8")
            self.assertIsNone(re.search(r"[^ -~\n]", text), file.name)
            lines = text.splitlines()
            self.assertLessEqual(len(lines), 399, file.name)
            for line in lines:
                self.assertLessEqual(len(line), 120, file.name)

    def test_functions_are_short_and_undecorated(self):
        for file, tree in trees():
            for function in functions(tree):
                self.assertLessEqual(function.end_lineno - function.lineno + 1, 40, f"{file.name} {function.name}")
                names = [ast.unparse(decorator) for decorator in function.decorator_list]
                self.assertLessEqual(set(names), {"property"}, function.name)

    def test_imports_name_the_file_that_defines(self):
        for file, tree in trees():
            for node in ast.walk(tree):
                self.assertNotIsInstance(node, ast.Import, file.name)
                if isinstance(node, ast.ImportFrom) and node.module not in LIBRARY:
                    self.assertIn(node, tree.body)
                    package, name = node.module.split(".")
                    self.assertEqual((package, node.level), ("unwindrows", 0))
                    text = (FOLDER / f"{name}.py").read_text(encoding="utf-8")
                    for alias in node.names:
                        self.assertIsNone(alias.asname)
                        self.assertRegex(text, rf"(?m)^((def|class) {alias.name}\b|{alias.name} = )")

    def test_no_statement_or_expression_that_is_barred(self):
        barred = (ast.Global, ast.AsyncFunctionDef, ast.Div)
        for file, tree in trees():
            for node in ast.walk(tree):
                self.assertNotIsInstance(node, barred, file.name)
                self.assertFalse(isinstance(node, ast.ExceptHandler) and node.type is None, file.name)
                self.assertFalse(isinstance(node, ast.Constant) and isinstance(node.value, float), file.name)

    def test_strings_and_words(self):
        for file, tree in trees():
            for node in ast.walk(tree):
                if isinstance(node, ast.Constant) and isinstance(node.value, str):
                    self.assertNotIn(chr(37), node.value, file.name)
            words = set(re.findall(r"\w+", file.read_text(encoding="utf-8")))
            self.assertFalse(words & BARRED, file.name)

    def test_names(self):
        for file, tree in trees():
            named = [node.id for node in ast.walk(tree) if isinstance(node, ast.Name)]
            made = [node.id for node in ast.walk(tree) if isinstance(node, ast.Name) and isinstance(node.ctx, ast.Store)]
            made += [node.arg for node in ast.walk(tree) if isinstance(node, ast.arg)]
            made += [function.name for function in functions(tree) if not function.name.startswith("__")]
            imported = {a.name for node in ast.walk(tree) if isinstance(node, ast.ImportFrom) for a in node.names}
            classes = {node.name for node in ast.walk(tree) if isinstance(node, ast.ClassDef)}
            for name in made:
                self.assertNotIn(name, BUILTINS, file.name)
                self.assertNotIn(name, NAMES_BARRED | imported | classes, file.name)
                self.assertFalse(name.startswith("__"), file.name)
            for name in named:
                if name in BUILTINS:
                    self.assertIn(name, CALLED, file.name)
                self.assertFalse(name == "_" and name not in made, file.name)

    def test_python_gives_no_warning(self):
        with warnings.catch_warnings():
            warnings.simplefilter("error")
            for file in files():
                compile(file.read_text(encoding="utf-8"), file.name, "exec")


if __name__ == "__main__":
    unittest.main()
