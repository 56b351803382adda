"""The files of the package keep to the sizes, signs and statements of the language that is prescribed."""

import ast
import builtins
import pathlib
import re
import unittest

ROOT = pathlib.Path(__file__).resolve().parent.parent
PACKAGE = ROOT / "withintwo"
BUILTINS = {
    "len", "range", "enumerate", "zip", "min", "max", "sum", "abs", "sorted", "reversed", "int", "str", "bool", "bytes", "list",
    "tuple", "dict", "set", "frozenset", "isinstance", "ord", "repr", "any", "all", "divmod", "pow", "getattr", "hasattr",
    "setattr", "map", "iter", "next", "super", "property", "staticmethod", "classmethod", "Exception", "ValueError", "TypeError",
    "KeyError", "IndexError", "LookupError", "ZeroDivisionError", "ArithmeticError", "OverflowError", "RuntimeError",
    "NotImplementedError", "AttributeError", "StopIteration", "NotImplemented",
}
METHODS = set(
    "append clear copy count endswith extend find get index insert isalnum isalpha isdigit islower isspace isupper items join "
    "keys ljust lower lstrip partition pop remove replace reverse rfind rjust rpartition rsplit rstrip setdefault split "
    "splitlines startswith strip update upper values zfill bit_length title capitalize swapcase casefold center expandtabs "
    "removeprefix removesuffix rindex isascii isdecimal isnumeric istitle isidentifier isprintable translate add discard "
    "sort format".split())
AT_ONCE = {"list", "tuple", "dict", "sorted", "sum", "any", "all", "enumerate", "zip", "min", "max", "reversed", "len",
           "combinations", "permutations", "product"}
LIBRARY = {"heapq", "math", "itertools", "collections"}
BARRED = (ast.Global, ast.AsyncFunctionDef, ast.AsyncFor, ast.AsyncWith, ast.Await, ast.Div, ast.MatMult, ast.Import, ast.Set)


def files():
    return sorted(PACKAGE.rglob("*.py"))


class LanguageTests(unittest.TestCase):
    def test_only_python_files(self):
        self.assertTrue((PACKAGE / "__init__.py").is_file())
        for path in PACKAGE.rglob("*"):
            if "__pycache__" not in path.parts and path.is_file():
                self.assertRegex(path.name, r"^[a-z0-9_]+\.py$")

    def test_sizes_and_characters(self):
        for path in files():
            text = path.read_bytes().decode("ascii")
            self.assertIsNone(re.search(r"[^ -~\n]", text), path)
            self.assertTrue(text.endswith("\n"), path)
            lines = text.split("\n")
            self.assertLessEqual(len(lines) - 1, 399, path)
            for line in lines:
                self.assertLessEqual(len(line), 120, (path, line))
                self.assertEqual(line, line.rstrip(), path)

    def test_functions(self):
        for path in files():
            for node in ast.walk(ast.parse(path.read_text())):
                if isinstance(node, ast.ClassDef):
                    self.assertEqual(node.decorator_list, [], (path, node.name))
                if isinstance(node, ast.FunctionDef):
                    self.assertLessEqual(node.end_lineno - node.lineno + 1, 40, (path, node.name))

    def test_statements_and_values(self):
        for path in files():
            for node in ast.walk(ast.parse(path.read_text())):
                self.assertNotIsInstance(node, BARRED, path)
                if isinstance(node, ast.Constant):
                    self.assertIn(node.value.__class__, (int, str, bytes, bool, type(None)), path)
                    self.assertFalse(isinstance(node.value, str) and "%" in node.value, (path, node.value))

    def test_values_at_module_level(self):
        for path in files():
            for node in ast.parse(path.read_text()).body:
                self.assertIsInstance(node, (ast.Expr, ast.ImportFrom, ast.FunctionDef, ast.ClassDef, ast.Assign), path)
                if isinstance(node, ast.Assign):
                    value = ast.literal_eval(node.value)
                    inner = list(value.values()) if isinstance(value, dict) else list(value) if isinstance(value, (list, tuple)) else []
                    while inner:
                        item = inner.pop()
                        self.assertNotIsInstance(item, (list, dict, set), (path, node.lineno))
                        inner += list(item) if isinstance(item, tuple) else []

    def test_iterated_at_once(self):
        for path in files():
            for node in ast.walk(ast.parse(path.read_text())):
                if isinstance(node, ast.Call) and isinstance(node.func, ast.Name):
                    for value in node.args:
                        name = value.func.id if isinstance(value, ast.Call) and isinstance(value.func, ast.Name) else None
                        if name in ("range", "zip", "enumerate", "reversed"):
                            self.assertIn(node.func.id, AT_ONCE, (path, node.lineno))
                self.assertNotIsInstance(node, (ast.GeneratorExp, ast.Lambda, ast.Global), path)

    def test_classes_and_errors(self):
        for path in files():
            for node in ast.walk(ast.parse(path.read_text())):
                if isinstance(node, ast.ClassDef):
                    self.assertTrue(all(isinstance(part, (ast.FunctionDef, ast.Expr)) for part in node.body), (path, node.name))
                    for part in node.body:
                        if isinstance(part, ast.FunctionDef):
                            self.assertEqual(part.decorator_list, [])
                            if part.name.startswith("__"):
                                self.assertIn(part.name, ("__init__", "__eq__", "__str__"))
                if isinstance(node, ast.Raise):
                    # An error is created where it is raised.
                    self.assertTrue(isinstance(node.exc, ast.Call) and isinstance(node.exc.func, ast.Name), (path, node.lineno))
                    self.assertTrue(all(not isinstance(value, ast.Starred) for value in node.exc.args))
                if isinstance(node, ast.ExceptHandler):
                    self.assertIn(ast.unparse(node.type), ("TableError", "BadChange"), (path, node.lineno))

    def test_exponents(self):
        for path in files():
            for node in ast.walk(ast.parse(path.read_text())):
                if isinstance(node, ast.BinOp) and isinstance(node.op, ast.Pow):
                    self.assertIsInstance(node.right, ast.Constant, (path, node.lineno))

    def test_imports(self):
        for path in files():
            for node in ast.walk(ast.parse(path.read_text())):
                if isinstance(node, ast.ImportFrom):
                    self.assertEqual(node.level, 0, path)
                    if node.module not in LIBRARY:
                        self.assertTrue(node.module.startswith("withintwo."), path)
                        file = ROOT / (node.module.replace(".", "/") + ".py")
                        defined = self.top_names(file)
                        for name in node.names:
                            self.assertIn(name.name, defined, path)
                            self.assertIsNone(name.asname, path)

    def top_names(self, path):
        found = []
        for node in ast.parse(path.read_text()).body:
            if isinstance(node, (ast.FunctionDef, ast.ClassDef)):
                found.append(node.name)
            if isinstance(node, ast.Assign):
                found += [target.id for target in node.targets]
        return found

    def test_all_imports_are_used(self):
        for path in files():
            tree = ast.parse(path.read_text())
            used = {node.id for node in ast.walk(tree) if isinstance(node, ast.Name)}
            for node in ast.walk(tree):
                if isinstance(node, ast.ImportFrom):
                    for name in node.names:
                        self.assertIn(name.name, used, path)

    def test_no_two_files_import_from_each_other(self):
        imports = {}
        for path in files():
            tree = ast.parse(path.read_text())
            imports[f"withintwo.{path.stem}"] = {node.module for node in ast.walk(tree) if isinstance(node, ast.ImportFrom)}
        while imports:
            free = [name for name, wanted in imports.items() if not wanted & set(imports)]
            self.assertNotEqual(free, [], imports)
            for name in free:
                del imports[name]

    def test_names(self):
        known = set(dir(builtins))
        for path in files():
            tree = ast.parse(path.read_text())
            imported = {name.name for node in ast.walk(tree) if isinstance(node, ast.ImportFrom) for name in node.names}
            classes = {node.name for node in ast.walk(tree) if isinstance(node, ast.ClassDef)}
            top = self.top_names(path)
            self.assertEqual(len(top) + len(imported), len({*top} | imported), path)
            for node in ast.walk(tree):
                bound = []
                if isinstance(node, ast.Name) and isinstance(node.ctx, ast.Store):
                    bound.append(node.id)
                if isinstance(node, ast.FunctionDef) and not node.name.startswith("__"):
                    bound.append(node.name)
                if isinstance(node, ast.arg):
                    bound.append(node.arg)
                for name in bound:
                    self.assertNotIn(name, known | imported | classes, path)
                if isinstance(node, ast.Name) and isinstance(node.ctx, ast.Load) and node.id in known:
                    self.assertIn(node.id, BUILTINS, path)

    def test_methods(self):
        trees = [ast.parse(path.read_text()) for path in files()]
        own = {node.name for tree in trees for node in ast.walk(tree) if isinstance(node, ast.FunctionDef)}
        for tree in trees:
            for node in ast.walk(tree):
                if isinstance(node, ast.Call) and isinstance(node.func, ast.Attribute):
                    self.assertIn(node.func.attr, METHODS | own)


if __name__ == "__main__":
    unittest.main()
