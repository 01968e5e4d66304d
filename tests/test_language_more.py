"""More of the language's rules, by their numbers, as far as they can be read off the package's files."""

import ast
import builtins
import pathlib
import unittest

FOLDER = pathlib.Path(__file__).resolve().parent.parent / "sumshelves"
METHODS = """append clear copy count endswith extend find get index insert isalnum isalpha isdigit islower isspace isupper items
join keys ljust lower lstrip partition pop remove replace reverse rfind rjust rpartition rsplit rstrip setdefault split
splitlines startswith strip update upper values zfill bit_length""".split()
SPECIAL = {"__init__", "__eq__", "__len__", "__contains__", "__enter__", "__exit__"}
LAZY = {"range", "zip", "enumerate", "reversed"}
VIEWS = {"items", "keys", "values"}
TAKERS = {"list", "tuple", "dict", "sorted", "sum", "any", "all", "enumerate", "zip", "min", "max", "combinations"}
LIBRARY = {"gcd", "lcm", "combinations"}
NO_ATTRIBUTES = """items keys values pop update append clear extend insert remove reverse setdefault sort args encode decode
hex fromhex format as_integer_ratio bit_count conjugate from_bytes is_integer to_bytes""".split()
NO_NAMES = """register mro elements open input law version_info with_traceback add_note attrgetter breakpoint builtins compile
copyright credits delattr dir eval exec exit gc globals help id importlib license locals methodcaller os quit setattr getattr
hasattr super type vars sys""".split()
PLAIN = (ast.Constant, ast.List, ast.Tuple, ast.Dict, ast.UnaryOp, ast.USub, ast.Load, ast.Name)


class Rules(unittest.TestCase):
    @classmethod
    def setUpClass(cls):
        cls.trees = {path.name: ast.parse(path.read_text()) for path in sorted(FOLDER.glob("*.py"))}
        cls.classes, cls.functions, cls.own_methods, cls.attributes = set(), set(), set(), set()
        for tree in cls.trees.values():
            cls.classes |= {node.name for node in tree.body if isinstance(node, ast.ClassDef)}
            cls.functions |= {node.name for node in tree.body if isinstance(node, ast.FunctionDef)}
            for node in ast.walk(tree):
                if isinstance(node, ast.ClassDef):
                    cls.own_methods |= {part.name for part in node.body if isinstance(part, ast.FunctionDef)}
                if isinstance(node, ast.Attribute) and isinstance(node.ctx, ast.Store):
                    cls.attributes.add(node.attr)
        cls.errors = {node.name for node in cls.trees["errors.py"].body if isinstance(node, ast.ClassDef)}

    def each(self, *kinds):
        for name, tree in self.trees.items():
            for node in ast.walk(tree):
                if isinstance(node, kinds):
                    yield (name, getattr(node, "lineno", 0)), node

    def each_with_parent(self):
        for name, tree in self.trees.items():
            for parent in ast.walk(tree):
                for field, value in ast.iter_fields(parent):
                    for node in value if isinstance(value, list) else [value]:
                        if isinstance(node, ast.AST):
                            yield (name, getattr(node, "lineno", 0)), parent, field, node

    def test_l3_l15_module_level(self):
        for name, tree in self.trees.items():
            bound = []
            for at, node in enumerate(tree.body):
                if isinstance(node, ast.Expr):
                    self.assertTrue(at == 0 and isinstance(node.value, ast.Constant) and isinstance(node.value.value, str), name)
                elif isinstance(node, ast.Assign):
                    self.assertTrue(len(node.targets) == 1 and isinstance(node.targets[0], ast.Name), (name, node.lineno))
                    self.assertTrue(all(isinstance(part, PLAIN) for part in ast.walk(node.value)), (name, node.lineno))
                    inner = [part for part in ast.walk(node.value) if part is not node.value]
                    self.assertFalse(any(isinstance(part, (ast.List, ast.Dict)) for part in inner), (name, node.lineno))
                    bound.append(node.targets[0].id)
                else:
                    self.assertIsInstance(node, (ast.ImportFrom, ast.FunctionDef, ast.ClassDef), (name, node.lineno))
                    bound += [part.name for part in node.names] if isinstance(node, ast.ImportFrom) else [node.name]
            self.assertEqual(len(bound), len(set(bound)), name)

    def test_l15_tables_are_only_read(self):
        tables = {node.targets[0].id for tree in self.trees.values() for node in tree.body
                  if isinstance(node, ast.Assign) and isinstance(node.value, (ast.List, ast.Dict))}
        for place, parent, _, node in self.each_with_parent():
            if isinstance(node, ast.Name) and node.id in tables and isinstance(node.ctx, ast.Load):
                if isinstance(parent, ast.Attribute):
                    self.assertEqual(parent.attr, "get", place)
                else:
                    self.assertIsInstance(parent, (ast.Subscript, ast.Compare), place)

    def test_l4_functions(self):
        for place, node in self.each(ast.FunctionDef, ast.Lambda):
            args = node.args
            self.assertFalse(args.vararg or args.kwarg or args.posonlyargs, place)
            for default in args.defaults + [part for part in args.kw_defaults if part is not None]:
                self.assertIsInstance(default, ast.Constant, place)
            if isinstance(node, ast.FunctionDef):
                self.assertEqual(node.decorator_list, [], place)
                self.assertIsNone(node.returns, place)
                self.assertFalse(any(isinstance(part, (ast.Yield, ast.YieldFrom, ast.Global, ast.Nonlocal)) for part in ast.walk(node)), place)
                inner = [part for part in ast.walk(node) if isinstance(part, (ast.FunctionDef, ast.ClassDef)) and part is not node]
                self.assertEqual(inner, [], place)

    def test_l5_classes(self):
        for place, node in self.each(ast.ClassDef):
            self.assertTrue(all(isinstance(part, ast.FunctionDef) or part is node.body[0] for part in node.body), place)
            names = [part.name for part in node.body if isinstance(part, ast.FunctionDef)]
            self.assertEqual(len(names), len(set(names)), place)
            self.assertTrue({name for name in names if name.startswith("__")} <= SPECIAL, place)
            stored = {part.attr for part in ast.walk(node) if isinstance(part, ast.Attribute) and isinstance(part.ctx, ast.Store)}
            self.assertEqual(stored & set(names), set(), place)
            self.assertTrue(all(isinstance(base, ast.Name) for base in node.bases) and not node.keywords and not node.decorator_list, place)

    def test_l6_statements(self):
        for place, node in self.each(ast.Assign, ast.AugAssign, ast.For, ast.comprehension):
            targets = node.targets if isinstance(node, ast.Assign) else [node.target]
            self.assertEqual(len(targets), 1, place)
            for part in ast.walk(targets[0]):
                if isinstance(getattr(part, "ctx", None), ast.Store):
                    self.assertIsInstance(part, (ast.Name, ast.Tuple, ast.Starred, ast.Subscript, ast.Attribute), place)
                if isinstance(part, ast.Attribute):
                    self.assertIsInstance(part.value, ast.Name, place)
            if isinstance(node, (ast.For, ast.comprehension)):
                self.assertIsInstance(node.target, (ast.Name, ast.Tuple), place)
        for place, node in self.each(ast.NamedExpr, ast.Global, ast.Delete, ast.Match, ast.JoinedStr, ast.GeneratorExp, ast.AnnAssign, ast.Await):
            self.fail(place)
        for place, node in self.each(ast.comprehension):
            self.assertFalse(node.is_async, place)

    def test_l6_with_and_exit(self):
        for place, node in self.each(ast.With):
            for part in node.items:
                self.assertIsInstance(part.context_expr, ast.Call, place)
                self.assertIsInstance(part.optional_vars, ast.Name, place)
        exits = [node for _, node in self.each(ast.FunctionDef) if node.name == "__exit__"]
        self.assertEqual(len(exits), 1)
        for node in ast.walk(exits[0]):
            if isinstance(node, ast.stmt):
                self.assertIsInstance(node, (ast.FunctionDef, ast.Assign, ast.If))
            self.assertNotIsInstance(node, (ast.Call, ast.BinOp, ast.Subscript))
            if isinstance(node, ast.Compare):
                self.assertTrue(all(isinstance(sign, (ast.Is, ast.IsNot)) for sign in node.ops))
                self.assertTrue(all(isinstance(other, ast.Constant) and other.value is None for other in node.comparators))
            if isinstance(node, ast.Name) and isinstance(node.ctx, ast.Load):
                self.assertIn(node.id, ("self", "hall", "kind"))

    def test_l8_l22_builtins_are_called(self):
        names = {name for name in dir(builtins) if not name.startswith("_")}
        for place, parent, field, node in self.each_with_parent():
            if isinstance(node, ast.Name) and node.id in names and isinstance(node.ctx, ast.Load) and node.id != "ValueError":
                called = isinstance(parent, ast.Call) and field == "func"
                kind = isinstance(parent, (ast.Call, ast.Tuple)) and node.id in ("int", "str", "bool", "tuple", "list", "dict")
                key = isinstance(parent, ast.keyword) and node.id == "len"
                self.assertTrue(called or kind or key, place)
            if isinstance(node, ast.Call) and isinstance(node.func, ast.Name) and node.func.id in names:
                allowed = {"sorted": {"key", "reverse"}, "min": {"key", "default"}, "max": {"key", "default"}, "enumerate": {"start"}, "sum": {"start"}}
                self.assertTrue({part.arg for part in node.keywords} <= allowed.get(node.func.id, set()), place)
                self.assertFalse(any(isinstance(part, ast.Starred) for part in node.args) and node.func.id not in ("max", "min", "zip"), place)
            if isinstance(node, ast.Call) and isinstance(node.func, ast.Name) and node.func.id in LIBRARY:
                self.assertFalse(node.keywords or any(isinstance(part, ast.Starred) for part in node.args), place)

    def test_l8_isinstance(self):
        for place, node in self.each(ast.Call):
            if getattr(node.func, "id", "") == "isinstance":
                second = node.args[1]
                parts = second.elts if isinstance(second, ast.Tuple) else [second]
                self.assertTrue(all(part.id in {"int", "str", "bool", "list", "tuple", "dict"} | self.classes for part in parts), place)

    def test_l18_classes_are_called_or_caught(self):
        for place, parent, field, node in self.each_with_parent():
            if isinstance(node, ast.Name) and node.id in self.classes:
                called = isinstance(parent, ast.Call) and field == "func"
                asked = isinstance(parent, ast.Call) and parent.func.id == "isinstance" and node is parent.args[1]
                self.assertTrue(called or asked or isinstance(parent, (ast.ExceptHandler, ast.ClassDef)), place)

    def test_l19_errors(self):
        for place, node in self.each(ast.Raise):
            self.assertTrue(isinstance(node.exc, ast.Call) and isinstance(node.exc.func, ast.Name) and node.exc.func.id in self.errors, place)
            self.assertEqual((len(node.exc.args), node.exc.keywords), (1, []), place)
            self.assertTrue(node.cause is None or isinstance(node.cause, ast.Constant) and node.cause.value is None, place)
        for place, node in self.each(ast.Try):
            self.assertEqual((node.finalbody, node.orelse), ([], []), place)
            for handler in node.handlers:
                self.assertTrue(isinstance(handler.type, ast.Name) and handler.type.id in self.errors, place)

    def test_l20_is(self):
        for place, node in self.each(ast.Compare):
            for sign, other in zip(node.ops, node.comparators):
                if isinstance(sign, (ast.Is, ast.IsNot)):
                    self.assertTrue(isinstance(other, ast.Constant) and other.value in (None, True, False), place)

    def test_l23_iterated_at_once(self):
        for place, parent, field, node in self.each_with_parent():
            if not isinstance(node, ast.Call):
                continue
            lazy = isinstance(node.func, ast.Name) and node.func.id in LAZY | {"combinations"}
            view = isinstance(node.func, ast.Attribute) and node.func.attr in VIEWS
            if lazy or view:
                iterated = isinstance(parent, (ast.For, ast.comprehension)) and field == "iter"
                taken = isinstance(parent, ast.Call) and isinstance(parent.func, ast.Name) and parent.func.id in TAKERS and field == "args"
                taken = taken and (parent.args[0] is node or parent.func.id == "zip")
                self.assertTrue(iterated or taken, place)

    def test_l23_what_a_loop_goes_over_is_not_changed(self):
        for place, node in self.each(ast.For):
            over = {part.id for part in ast.walk(node.iter) if isinstance(part, ast.Name)}
            for part in ast.walk(ast.Module(node.body, [])):
                if isinstance(part, ast.Call) and isinstance(part.func, ast.Attribute) and part.func.attr in ("append", "extend", "pop", "insert", "remove", "clear"):
                    self.assertNotIn(getattr(part.func.value, "id", ""), over, place)
                if isinstance(part, ast.Subscript) and isinstance(part.ctx, ast.Store) and isinstance(node.iter, ast.Name):
                    self.assertNotEqual(getattr(part.value, "id", ""), node.iter.id, place)

    def test_l25_l26_methods_and_attributes(self):
        for place, parent, field, node in self.each_with_parent():
            if isinstance(node, ast.Attribute):
                self.assertFalse(node.attr.startswith("__"), place)
                self.assertNotIn(node.attr, NO_NAMES, place)
                if isinstance(parent, ast.Call) and field == "func":
                    self.assertIn(node.attr, set(METHODS) | self.own_methods, place)
                    if node.attr in METHODS:
                        self.assertEqual(parent.keywords, [], place)
                else:
                    self.assertIn(node.attr, self.attributes, place)
                    self.assertNotIn(node.attr, NO_ATTRIBUTES, place)

    def test_l17_l12_names(self):
        for place, node in self.each(ast.Name, ast.arg, ast.FunctionDef, ast.ClassDef):
            name = getattr(node, "id", None) or getattr(node, "arg", None) or getattr(node, "name", None)
            self.assertNotIn(name, NO_NAMES, place)
            self.assertTrue(name in SPECIAL or not name.startswith("__"), place)
            if name.startswith("_") and name not in SPECIAL and name != "_":
                self.assertTrue(name[1].isalpha(), place)
            if name == "_":
                self.assertNotIsInstance(getattr(node, "ctx", None), ast.Load, place)

    def test_l7_l27_values(self):
        for place, node in self.each(ast.BinOp, ast.Constant, ast.Starred, ast.Set, ast.SetComp, ast.Dict, ast.Lambda):
            if isinstance(node, ast.BinOp):
                self.assertNotIsInstance(node.op, (ast.Div, ast.Pow, ast.MatMult), place)
            if isinstance(node, ast.Starred) and isinstance(node.ctx, ast.Load):
                self.assertIsInstance(node.value, (ast.Name, ast.Attribute), place)
            if isinstance(node, ast.Dict):
                self.assertNotIn(None, node.keys, place)
            if isinstance(node, ast.Constant):
                self.assertIsInstance(node.value, (int, str, bool, type(None)), place)

    def test_l28_double_underscore_methods(self):
        for place, node in self.each(ast.FunctionDef):
            returns = [part for part in ast.walk(node) if isinstance(part, ast.Return)]
            if node.name == "__init__":
                self.assertEqual(returns, [], place)
            if node.name == "__len__":
                self.assertTrue(all(getattr(part.value.func, "id", "") == "len" for part in returns) and len(node.body) == 1, place)
            if node.name in ("__eq__", "__len__", "__contains__"):
                for part in ast.walk(node):
                    self.assertNotIsInstance(part, (ast.Assign, ast.AugAssign), place)
                    if isinstance(part, ast.Call):
                        self.assertIn(getattr(part.func, "id", ""), ("isinstance", "len", "is_integer"), place)

    def test_l10_l14_sizes(self):
        self.assertLessEqual(len(self.trees), 100)
        for name in self.trees:
            stem = name[:-3]
            self.assertTrue(stem == "__init__" or stem.islower() and stem.isalpha() and stem not in dir(builtins), name)
            self.assertNotIn(stem, NO_NAMES)


if __name__ == "__main__":
    unittest.main()
