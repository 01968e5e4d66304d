"""What of the language's rules can be read off the package's files at once."""

import ast
import builtins
import pathlib
import unittest

FOLDER = pathlib.Path(__file__).resolve().parent.parent / "sumshelves"
BUILTINS = """len range enumerate zip min max sum abs sorted reversed int str bool list tuple dict set isinstance ord repr
any all divmod map iter next ValueError TypeError KeyError IndexError NotImplemented super""".split()
LIBRARY = {"heapq", "math", "itertools", "collections"}
STATEMENTS = (
    ast.Assign, ast.AugAssign, ast.If, ast.While, ast.For, ast.Return, ast.Break, ast.Continue, ast.Pass, ast.Raise,
    ast.Assert, ast.Delete, ast.Nonlocal, ast.Match, ast.With, ast.Try, ast.Expr, ast.FunctionDef, ast.ClassDef,
    ast.ImportFrom,
)
WORDS = ["dataclass", "overload", "contextmanager", "_wall", "namedtuple", "typing"]


def files():
    return sorted(FOLDER.glob("*.py"))


class Language(unittest.TestCase):
    def each_node(self):
        for path in files():
            for node in ast.walk(ast.parse(path.read_text())):
                yield path.name, node

    def test_files(self):
        self.assertTrue(files())
        for path in FOLDER.iterdir():
            self.assertTrue(path.suffix == ".py" or path.name == "__pycache__", path.name)
        for path in files():
            text = path.read_text()
            lines = text.split("\n")
            self.assertLess(len(lines), 400, path.name)
            self.assertLessEqual(max(map(len, lines)), 120, path.name)
            self.assertTrue(all(sign == "\n" or " " <= sign <= "~" for sign in text), path.name)
            for word in WORDS:
                self.assertNotIn(word, text, path.name)

    def test_statements_and_imports(self):
        for name, node in self.each_node():
            if isinstance(node, ast.stmt):
                self.assertIsInstance(node, STATEMENTS, (name, node.lineno))
            if isinstance(node, ast.ImportFrom):
                self.assertEqual(node.level, 0, name)
                first, _, rest = node.module.partition(".")
                self.assertTrue(first == "sumshelves" and rest or node.module in LIBRARY, (name, node.module))
                self.assertTrue(all(part.name != "*" for part in node.names), name)

    def test_functions(self):
        for name, node in self.each_node():
            if isinstance(node, ast.FunctionDef):
                self.assertLessEqual(node.end_lineno - node.lineno + 1, 40, (name, node.name))
                args = node.args
                for parameter in args.posonlyargs + args.args + args.kwonlyargs:
                    self.assertNotIn(parameter.arg, dir(builtins), (name, node.name))

    def test_names_of_builtins(self):
        for name, node in self.each_node():
            # A doctest that runs beside this one leaves its last value in the builtins as _.
            if isinstance(node, ast.Name) and node.id in dir(builtins) and node.id != "_":
                self.assertIn(node.id, BUILTINS, (name, node.lineno))
                self.assertIsInstance(node.ctx, ast.Load, (name, node.lineno))

    def test_imports_are_used_and_keep_their_names(self):
        for path in files():
            tree = ast.parse(path.read_text())
            imported = {part.name for node in tree.body if isinstance(node, ast.ImportFrom) for part in node.names}
            classes = {node.name for node in tree.body if isinstance(node, ast.ClassDef)}
            read = {node.id for node in ast.walk(tree) if isinstance(node, ast.Name) and isinstance(node.ctx, ast.Load)}
            bound = {node.id for node in ast.walk(tree) if isinstance(node, ast.Name) and isinstance(node.ctx, ast.Store)}
            bound |= {node.arg for node in ast.walk(tree) if isinstance(node, ast.arg)}
            functions = {node.name for node in ast.walk(tree) if isinstance(node, ast.FunctionDef)}
            self.assertEqual(functions & set(dir(builtins)), set(), path.name)
            self.assertEqual(imported - read, set(), path.name)
            self.assertEqual(bound & (imported | classes), set(), path.name)
            self.assertEqual(bound & set(dir(builtins)) - {"_"}, set(), path.name)

    def test_no_two_files_import_from_each_other(self):
        follows = {path.stem: {node.module.split(".")[1] for node in ast.walk(ast.parse(path.read_text()))
                               if isinstance(node, ast.ImportFrom) and node.module.startswith("sumshelves.")}
                   for path in files()}
        while follows:
            free = [name for name, others in follows.items() if not others & set(follows)]
            self.assertTrue(free, sorted(follows))
            follows = {name: others for name, others in follows.items() if name not in free}

    def test_names_come_from_the_file_that_defines_them(self):
        defined = {path.stem: {node.name for node in ast.parse(path.read_text()).body if hasattr(node, "name")}
                   | {target.id for node in ast.parse(path.read_text()).body if isinstance(node, ast.Assign)
                      for target in node.targets} for path in files()}
        for name, node in self.each_node():
            if isinstance(node, ast.ImportFrom) and node.module.startswith("sumshelves."):
                for part in node.names:
                    self.assertIn(part.name, defined[node.module.split(".")[1]], name)

    def test_stars_in_calls_stand_over_names(self):
        for name, node in self.each_node():
            if isinstance(node, ast.Call):
                for part in node.args:
                    if isinstance(part, ast.Starred):
                        self.assertIsInstance(part.value, (ast.Name, ast.Attribute), (name, node.lineno))
                for part in node.keywords:
                    self.assertIsNotNone(part.arg, (name, node.lineno))

    def test_sets_are_only_sorted_measured_or_asked(self):
        for name, node in self.each_node():
            for part in ast.iter_child_nodes(node):
                is_set = isinstance(part, (ast.SetComp, ast.Set))
                is_set = is_set or isinstance(part, ast.Call) and getattr(part.func, "id", "") == "set"
                if is_set and isinstance(node, ast.Call):
                    self.assertIn(getattr(node.func, "id", ""), ("sorted", "len"), (name, node.lineno))
                elif is_set:
                    self.assertIsInstance(node, ast.Compare, (name, getattr(node, "lineno", 0)))

    def test_values(self):
        for name, node in self.each_node():
            place = (name, getattr(node, "lineno", 0))
            self.assertNotIsInstance(node, (ast.GeneratorExp, ast.Div), place)
            if isinstance(node, ast.Constant):
                self.assertNotIsInstance(node.value, (float, complex), place)
                self.assertFalse(isinstance(node.value, str) and "%" in node.value, place)


if __name__ == "__main__":
    unittest.main()
