"""What of the language's rules can be read off the package's files at once."""

import ast
import builtins
import pathlib
import unittest

FOLDER = pathlib.Path(__file__).resolve().parent.parent / "sumshelves"
BUILTINS = """len range enumerate zip min max sum abs sorted reversed int str bool list tuple dict set isinstance ord repr
any all divmod map iter next ValueError TypeError KeyError IndexError NotImplemented super""".split()
LIBRARY = {"heapq", "math", "itertools", "collections"}
STATEMENTS = (
    ast.Assign, ast.AugAssign, ast.If, ast.While, ast.For, ast.Return, ast.Break, ast.Continue, ast.Pass, ast.Raise,
    ast.Assert, ast.Delete, ast.Nonlocal, ast.Match, ast.With, ast.Try, ast.Expr, ast.FunctionDef, ast.ClassDef,
    ast.ImportFrom,
)
WORDS = ["dataclass", "overload", "contextmanager", "_wall", "namedtuple", "typing"]


def files():
    return sorted(FOLDER.glob("*.py"))


class Language(unittest.TestCase):
    def each_node(self):
        for path in files():
            for node in ast.walk(ast.parse(path.read_text())):
                yield path.name, node

    def test_files(self):
        self.assertTrue(files())
        for path in FOLDER.iterdir():
            self.assertTrue(path.suffix == ".py" or path.name == "__pycache__", path.name)
        for path in files():
            text = path.read_text()
            lines = text.split("\n")
            self.assertLess(len(lines), 400, path.name)
            self.assertLessEqual(max(map(len, lines)), 120, path.name)
            self.assertTrue(all(sign == "\n" or " " <= sign <= "~" for sign in text), path.name)
            for word in WORDS:
                self.assertNotIn(word, text, path.name)

    def test_statements_and_imports(self):
        for name, node in self.each_node():
            if isinstance(node, ast.stmt):
                self.assertIsInstance(node, STATEMENTS, (name, node.lineno))
            if isinstance(node, ast.ImportFrom):
                self.assertEqual(node.level, 0, name)
                first, _, rest = node.module.partition(".")
                self.assertTrue(first == "sumshelves" and rest or node.module in LIBRARY, (name, node.module))
                self.assertTrue(all(part.name != "*" for part in node.names), name)

    def test_functions(self):
        for name, node in self.each_node():
            if isinstance(node, ast.FunctionDef):
                self.assertLessEqual(node.end_lineno - node.lineno + 1, 40, (name, node.name))
                args = node.args
                for parameter in args.posonlyargs + args.args + args.kwonlyargs:
                    self.assertNotIn(parameter.arg, dir(builtins), (name, node.name))

    def test_names_of_builtins(self):
        for name, node in self.each_node():
            # A doctest that runs beside this one leaves its last value in the builtins as _.
            if isinstance(node, ast.Name) and node.id in dir(builtins) and node.id != "_":
                self.assertIn(node.id, BUILTINS, (name, node.lineno))
                self.assertIsInstance(node.ctx, ast.Load, (name, node.lineno))

    def test_values(self):
        for name, node in self.each_node():
            place = (name, getattr(node, "lineno", 0))
            self.assertNotIsInstance(node, (ast.GeneratorExp, ast.Div), place)
            if isinstance(node, ast.Constant):
                self.assertNotIsInstance(node.value, (float, complex), place)
                self.assertFalse(isinstance(node.value, str) and "%" in node.value, place)


if __name__ == "__main__":
    unittest.main()
