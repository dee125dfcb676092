"""The rules for the package's files that can be seen by simple means: sizes, signs, imports, words."""

import ast
import pathlib
import re
import unittest

PACKAGE = pathlib.Path(__file__).resolve().parent.parent / "lateshares"
LIBRARY = {"math": {"gcd", "lcm"}, "itertools": {"permutations"}}
BARRED = ["Enum", "Flag", "Generic", "NamedTuple", "Protocol", "dataclass", "enum", "namedtuple", "typing"]
BUILTINS = {
    "len", "range", "enumerate", "zip", "min", "max", "sum", "abs", "sorted", "reversed", "int", "str", "bool", "list",
    "tuple", "dict", "set", "isinstance", "ord", "repr", "any", "all", "divmod", "ValueError", "LookupError", "KeyError",
}
# Methods of builtin values, as far as the package calls any.
METHODS = {
    "append", "count", "extend", "get", "index", "isalpha", "isascii", "isdigit", "islower", "items", "join", "partition",
    "pop", "removeprefix", "replace", "split", "startswith", "values",
}
DOUBLE = {"__init__", "__eq__", "__len__"}


def files():
    return sorted(PACKAGE.glob("*.py"))


def nodes(file, *kinds):
    return [node for node in ast.walk(ast.parse(file.read_text())) if isinstance(node, kinds)]


class Files(unittest.TestCase):
    def test_the_folder_holds_files_alone(self):
        names = [path.name for path in PACKAGE.iterdir() if path.name != "__pycache__"]
        self.assertIn("__init__.py", names)
        for name in names:
            self.assertRegex(name, r"\A[a-z_0-9]+\.py\Z")

    def test_sizes(self):
        for file in files():
            rows = file.read_text().split("\n")
            self.assertLess(len(rows), 400, file.name)
            self.assertLessEqual(max(len(row) for row in rows), 120, file.name)
            for node in nodes(file, ast.FunctionDef):
                self.assertLessEqual(node.end_lineno - node.lineno + 1, 40, (file.name, node.name))

    def test_signs(self):
        for file in files():
            self.assertRegex(file.read_text(), r"\A[ -~\n]*\Z", file.name)

    def test_words(self):
        for file in files():
            for node in nodes(file, ast.Name, ast.Attribute, ast.arg):
                word = getattr(node, "id", None) or getattr(node, "attr", None) or node.arg
                self.assertNotIn(word, BARRED + ["type"], file.name)
            for word in BARRED:
                self.assertIsNone(re.search(rf"\b{word}\b", file.read_text()), (file.name, word))


class Code(unittest.TestCase):
    def test_imports(self):
        for file in files():
            self.assertEqual(nodes(file, ast.Import), [], file.name)
            for node in nodes(file, ast.ImportFrom):
                self.assertEqual(node.level, 0)
                for name in node.names:
                    self.assertIsNone(name.asname)
                    if not node.module.startswith("lateshares."):
                        self.assertIn(name.name, LIBRARY.get(node.module, ()), file.name)

    def test_no_name_has_two_meanings(self):
        for file in files():
            imported = {name.name for node in nodes(file, ast.ImportFrom) for name in node.names}
            assigned = {node.id for node in nodes(file, ast.Name) if isinstance(node.ctx, ast.Store)}
            assigned |= {node.arg for node in nodes(file, ast.arg)}
            assigned |= {node.name for node in nodes(file, ast.FunctionDef, ast.ClassDef) if node.col_offset == 0}
            self.assertEqual(imported & assigned, set(), file.name)

    def test_imports_go_one_way(self):
        above = {}
        for file in files():
            modules = [node.module for node in nodes(file, ast.ImportFrom) if node.module.startswith("lateshares.")]
            above[file.stem] = {module.split(".")[1] for module in modules}
        while above:
            ready = [name for name, needed in above.items() if not needed & set(above)]
            self.assertNotEqual(ready, [], above)
            for name in ready:
                del above[name]

    def test_no_numbers_with_a_point(self):
        for file in files():
            self.assertEqual(nodes(file, ast.Div), [], file.name)
            self.assertFalse([node for node in nodes(file, ast.Constant) if isinstance(node.value, (float, complex))])

    def test_statements(self):
        barred = (ast.Global, ast.AsyncFunctionDef, ast.AsyncFor, ast.AsyncWith, ast.Await, ast.GeneratorExp)
        for file in files():
            self.assertEqual(nodes(file, *barred), [], file.name)

    def test_functions(self):
        for file in files():
            for node in nodes(file, ast.FunctionDef):
                self.assertEqual(node.decorator_list, [], (file.name, node.name))
                if node.name.startswith("__"):
                    self.assertIn(node.name, DOUBLE, file.name)
                self.assertIsNone(node.args.kwarg or node.args.vararg, (file.name, node.name))
            for node in nodes(file, ast.ClassDef):
                self.assertEqual(node.decorator_list, [], (file.name, node.name))

    def test_methods(self):
        own = {node.name for file in files() for node in nodes(file, ast.FunctionDef)}
        for file in files():
            for node in nodes(file, ast.Call):
                if isinstance(node.func, ast.Attribute):
                    self.assertIn(node.func.attr, METHODS | own, file.name)

    def test_methods_are_no_attributes(self):
        own = {node.name for file in files() for node in nodes(file, ast.FunctionDef)}
        for file in files():
            stored = {node.attr for node in nodes(file, ast.Attribute) if isinstance(node.ctx, ast.Store)}
            self.assertEqual(stored & (own | METHODS | set(dir(dict)) | set(dir(str)) | set(dir(list))), set(), file.name)

    def test_errors_are_caught_by_own_names(self):
        own = {node.name for node in nodes(PACKAGE / "errors.py", ast.ClassDef)}
        for file in files():
            for node in nodes(file, ast.ExceptHandler):
                self.assertIn(node.type.id, own, file.name)
            for node in nodes(file, ast.Raise):
                self.assertIn(node.exc.func.id, own, file.name)

    def test_sets_stand_in_sorted_alone(self):
        for file in files():
            tree = ast.parse(file.read_text())
            inside = [arg for node in ast.walk(tree) if isinstance(node, ast.Call) and getattr(node.func, "id", "") == "sorted"
                      for arg in node.args]
            for node in ast.walk(tree):
                called = isinstance(node, ast.Call) and getattr(node.func, "id", "") in ("set", "frozenset")
                if called or isinstance(node, (ast.Set, ast.SetComp)):
                    self.assertIn(node, inside, file.name)

    def test_texts(self):
        for file in files():
            for node in nodes(file, ast.Constant):
                if isinstance(node.value, str):
                    self.assertNotIn(chr(37), node.value, file.name)
                    self.assertFalse(node.value.endswith(("._", ".__")), file.name)

    def test_lambdas_stand_on_rows_of_their_own(self):
        for file in files():
            rows = [node.lineno for node in nodes(file, ast.Lambda)]
            self.assertEqual(len(rows), len(set(rows)), file.name)

    def test_builtins(self):
        everything = dir(__builtins__) if not isinstance(__builtins__, dict) else list(__builtins__)
        for file in files():
            for node in nodes(file, ast.Name):
                if node.id in everything:
                    self.assertIn(node.id, BUILTINS, (file.name, node.id))
                    self.assertIsInstance(node.ctx, ast.Load, (file.name, node.id))


if __name__ == "__main__":
    unittest.main()
