"""Rules of LANGUAGE.md that can be told by looking at the syntax of the package."""

import ast
import builtins
import pathlib
import unittest

FOLDER = pathlib.Path(__file__).resolve().parent.parent / "halfread"
FILES = sorted(path for path in FOLDER.rglob("*") if path.suffix != ".pyc" and path.name != "__pycache__")

BUILTINS = {
    "len", "range", "enumerate", "zip", "min", "max", "sum", "abs", "sorted", "reversed", "int", "str", "bool",
    "list", "tuple", "dict", "set", "isinstance", "ord", "repr", "any", "all", "divmod", "ValueError", "TypeError",
    "KeyError", "super", "property", "classmethod", "staticmethod",
}
STATEMENTS = (
    ast.Assign, ast.AugAssign, ast.If, ast.While, ast.For, ast.Return, ast.Break, ast.Continue, ast.Pass, ast.Raise,
    ast.Assert, ast.Delete, ast.Try, ast.Expr, ast.FunctionDef, ast.ClassDef, ast.ImportFrom, ast.Nonlocal,
)
KNOWN = {name for name in dir(builtins) if not name.startswith("_")}
SPECIAL = {
    "__init__", "__eq__", "__repr__", "__str__", "__len__", "__call__", "__iter__", "__contains__", "__getitem__",
    "__neg__",
}


def tree_of(path):
    return ast.parse(path.read_text(encoding="utf-8"))


def nodes(path, kind):
    return [node for node in ast.walk(tree_of(path)) if isinstance(node, kind)]


# Words that stand in no file but in comments and docstrings, and names that nothing has.
BARRED = {
    "type", "typing", "enum", "Enum", "Flag", "Generic", "Protocol", "ABC", "namedtuple", "NamedTuple", "TypedDict",
    "register", "mro", "elements", "open", "input", "law", "iter", "next", "getattr", "setattr", "hasattr", "map",
}
OF_BUILTINS = {name for kind in (str, int, list, dict, set, bytes, tuple) for name in dir(kind) if name[0] != "_"}


class LanguageTest(unittest.TestCase):
    def test_files(self):
        self.assertEqual([path.name for path in FILES if path.suffix != ".py"], [])
        self.assertIn("__init__.py", [path.name for path in FILES])
        for path in FILES:
            text = path.read_bytes()
            self.assertTrue(all(byte == 10 or 32 <= byte <= 126 for byte in text), path)
            lines = text.decode("ascii").split("\n")
            self.assertLessEqual(len(lines), 399, path)
            self.assertLessEqual(max(map(len, lines)), 120, path)

    def test_functions_are_short(self):
        for path in FILES:
            for node in nodes(path, ast.FunctionDef):
                self.assertLessEqual(node.end_lineno - node.lineno + 1, 40, (path, node.name))

    def test_imports_name_the_file_that_defines(self):
        for path in FILES:
            self.assertEqual(nodes(path, ast.Import), [])
            for node in nodes(path, ast.ImportFrom):
                if node.module == "math":
                    self.assertEqual([(name.name, name.asname) for name in node.names], [("gcd", None)])
                    continue
                self.assertTrue(node.module.startswith("halfread."), (path, node.module))
                source = FOLDER / (node.module.split(".", 1)[1] + ".py")
                defined = {row.name for row in tree_of(source).body if isinstance(row, (ast.FunctionDef, ast.ClassDef))}
                self.assertLessEqual({name.name for name in node.names}, defined)
                self.assertTrue(all(name.asname is None for name in node.names))

    def test_statements(self):
        for path in FILES:
            for node in nodes(path, ast.stmt):
                self.assertIsInstance(node, STATEMENTS, (path, node.lineno))
            for row in tree_of(path).body:
                self.assertIsInstance(row, (ast.Expr, ast.Assign, ast.ImportFrom, ast.FunctionDef, ast.ClassDef))

    def test_expressions(self):
        for path in FILES:
            self.assertEqual(nodes(path, (ast.GeneratorExp, ast.Div, ast.Yield, ast.NamedExpr, ast.MatMult)), [])
            for node in nodes(path, ast.Constant):
                self.assertNotIsInstance(node.value, (float, complex, bytes))
                self.assertNotIn("%", str(node.value))
            for node in nodes(path, ast.Compare):
                for sign, side in zip(node.ops, node.comparators):
                    if isinstance(sign, (ast.Is, ast.IsNot)):
                        self.assertIn(ast.unparse(side), ("None", "True", "False"))

    def test_calls_with_stars(self):
        for path in FILES:
            for node in nodes(path, ast.Call):
                stars = [at for at, part in enumerate(node.args) if isinstance(part, ast.Starred)]
                for part in node.args[min(stars, default=len(node.args)):]:
                    value = part.value if isinstance(part, ast.Starred) else part
                    self.assertIsInstance(value, (ast.Name, ast.Constant), (path, node.lineno))

    def test_loops_do_not_change_what_they_go_over(self):
        changing = {"append", "extend", "insert", "pop", "remove", "clear", "update", "setdefault"}
        for path in FILES:
            for loop in nodes(path, ast.For):
                over = {ast.unparse(node) for node in ast.walk(loop.iter) if isinstance(node, (ast.Name, ast.Attribute))}
                for node in [node for row in loop.body for node in ast.walk(row)]:
                    if isinstance(node, ast.Call) and isinstance(node.func, ast.Attribute) and node.func.attr in changing:
                        self.assertNotIn(ast.unparse(node.func.value), over, (path, node.lineno))
                    if isinstance(node, ast.Subscript) and not isinstance(node.ctx, ast.Load):
                        self.assertNotIn(ast.unparse(node.value), over, (path, node.lineno))

    def test_names(self):
        for path in FILES:
            for node in nodes(path, ast.Name):
                if node.id in KNOWN:
                    self.assertIn(node.id, BUILTINS, (path, node.lineno))
                    self.assertIsInstance(node.ctx, ast.Load, (path, node.lineno))
            for node in nodes(path, ast.arg):
                self.assertNotIn(node.arg, KNOWN)
            for node in nodes(path, (ast.FunctionDef, ast.ClassDef)):
                self.assertNotIn(node.name, KNOWN)
                self.assertTrue(node.name in SPECIAL or not node.name.startswith("__"), (path, node.name))
                for decorator in node.decorator_list:
                    self.assertIn(ast.unparse(decorator), ("property", "classmethod", "staticmethod"))

    def test_local_names_are_no_imports_or_classes(self):
        for path in FILES:
            taken = {name.name for node in nodes(path, ast.ImportFrom) for name in node.names}
            taken |= {node.name for node in nodes(path, ast.ClassDef)}
            for function in nodes(path, ast.FunctionDef):
                given = {node.arg for node in ast.walk(function) if isinstance(node, ast.arg)}
                given |= {node.id for node in ast.walk(function)
                          if isinstance(node, ast.Name) and isinstance(node.ctx, ast.Store)}
                self.assertEqual(given & taken, set(), (path, function.name))

    def test_attributes_and_properties(self):
        properties, stored = set(), set()
        for path in FILES:
            for node in nodes(path, ast.ClassDef):
                for row in node.body:
                    if isinstance(row, ast.FunctionDef) and [ast.unparse(name) for name in row.decorator_list] == ["property"]:
                        properties.add(row.name)
            stored |= {node.attr for node in nodes(path, ast.Attribute) if isinstance(node.ctx, ast.Store)}
            methods = {row.name for node in nodes(path, ast.ClassDef) for row in node.body if isinstance(row, ast.FunctionDef)}
            self.assertEqual(methods & stored, set())
            self.assertEqual(methods & OF_BUILTINS, set())
            for node in nodes(path, (ast.Name, ast.arg, ast.FunctionDef, ast.ClassDef, ast.Attribute, ast.keyword)):
                names = {getattr(node, kind, None) for kind in ("id", "arg", "name", "attr")}
                self.assertEqual(names & BARRED, set(), (path, names))
            for node in nodes(path, ast.Attribute):
                if node.attr.startswith("__"):
                    self.assertIn(ast.unparse(node), ("self.__class__", "self.__class__.__name__", "super().__init__"))
        self.assertEqual(properties & stored, set())
        self.assertEqual((properties | stored) & OF_BUILTINS, set())

    def test_lengths_are_those_of_what_is_held(self):
        # Behind __len__ no length of a range is told: it is one of a list or a tuple.
        many = 0
        for path in FILES:
            for node in nodes(path, ast.FunctionDef):
                if node.name == "__len__":
                    many += 1
                    for row in [row for row in ast.walk(node) if isinstance(row, ast.Return)]:
                        self.assertEqual(ast.unparse(row.value.func), "len", path)
                        self.assertFalse(ast.unparse(row.value.args[0]).startswith("range("), path)
        self.assertEqual(many, 2)

    def test_imports_go_round_no_circle(self):
        needs = {}
        for path in FILES:
            names = [node.module for node in nodes(path, ast.ImportFrom) if node.module.startswith("halfread.")]
            needs[path.stem] = {name.split(".")[1] for name in names}
        while needs:
            free = [name for name, others in needs.items() if not others]
            self.assertTrue(free, needs)
            needs = {name: others - set(free) for name, others in needs.items() if name not in free}

    def test_imports_are_used(self):
        for path in FILES:
            used = {node.id for node in nodes(path, ast.Name)}
            for node in nodes(path, ast.ImportFrom):
                self.assertLessEqual({name.name for name in node.names}, used, path)
