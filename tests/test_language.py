"""What can be seen of the rules for the package's code, file by file."""

import ast
import builtins
import unittest
import warnings
from pathlib import Path

ROOT = Path(__file__).resolve().parent.parent
PACKAGE = ROOT / "wildsteps"
FILES = sorted(PACKAGE.rglob("*.py"))
LIBRARY = {"math": {"gcd", "lcm", "isqrt", "comb", "perm", "factorial"}}
BUILTINS = set("""len range enumerate zip min max sum abs sorted reversed int str bool bytes list tuple dict set frozenset
    isinstance ord repr any all divmod pow ValueError TypeError KeyError IndexError LookupError ZeroDivisionError
    ArithmeticError OverflowError RuntimeError NotImplementedError NotImplemented property classmethod
    staticmethod""".split())
METHODS = set("""append clear copy count endswith extend find get index insert isalnum isalpha isdigit islower isspace
    isupper items join keys ljust lower lstrip partition pop remove replace reverse rfind rjust rpartition rsplit
    rstrip setdefault split splitlines startswith strip update upper values zfill bit_length""".split())
SPECIAL = {"__init__", "__eq__", "__str__", "__repr__", "__len__", "__contains__"}
WORDS = ("typing", "typing_extensions", "enum", "Enum", "Protocol", "ABC", "namedtuple", "dataclass", "overload",
         "contextmanager", "_wall", "_WallAttr")
NEVER = {"register", "mro", "elements", "open", "input", "law", "version_info", "with_traceback", "add_note"}
STATEMENTS = (ast.Assign, ast.AugAssign, ast.If, ast.While, ast.For, ast.Return, ast.Break, ast.Continue, ast.Pass,
              ast.Raise, ast.Expr, ast.FunctionDef, ast.ClassDef, ast.ImportFrom, ast.Delete, ast.Assert, ast.Try)
BANNED = (ast.GeneratorExp, ast.Lambda, ast.Await, ast.Yield, ast.YieldFrom, ast.Div, ast.MatMult, ast.SetComp, ast.Set,
          ast.NamedExpr, ast.AnnAssign)


def tree_of(path):
    return ast.parse(path.read_text("utf-8"))


def module_of(path):
    parts = path.relative_to(ROOT).with_suffix("").parts
    return ".".join(parts[:-1] if parts[-1] == "__init__" else parts)


def defined(tree):
    names = []
    for node in tree.body:
        if isinstance(node, (ast.FunctionDef, ast.ClassDef)):
            names.append(node.name)
        elif isinstance(node, ast.Assign):
            names.extend(target.id for target in node.targets)
    return names


TREES = {module_of(path): tree_of(path) for path in FILES}


class LanguageTest(unittest.TestCase):

    def each(self):
        for path in FILES:
            with self.subTest(file=str(path.relative_to(ROOT))):
                yield path, TREES[module_of(path)]

    def test_folder_holds_python_alone(self):
        for path in PACKAGE.rglob("*"):
            if path.is_dir() and path.name != "__pycache__":
                self.assertTrue((path / "__init__.py").exists(), path)
            elif path.is_file() and path.parent.name != "__pycache__":
                self.assertEqual(path.suffix, ".py")
                self.assertFalse((path.parent / path.stem).is_dir())

    def test_sizes_and_characters(self):
        for path, tree in self.each():
            text = path.read_text("ascii")
            lines = text.splitlines()
            self.assertLessEqual(len(lines), 399)
            self.assertTrue(all(len(line) <= 120 for line in lines))
            self.assertTrue(all(c == "\n" or " " <= c <= "~" for c in text))
            self.assertTrue(all(line == line.rstrip() and not line.endswith("\\") for line in lines))
            for node in ast.walk(tree):
                if isinstance(node, ast.FunctionDef):
                    self.assertLessEqual(node.end_lineno - node.lineno + 1, 40, node.name)
                    self.assertIsNotNone(ast.get_docstring(node) or (node.name in SPECIAL or None), node.name)

    def test_no_warnings(self):
        for path, _ in self.each():
            with warnings.catch_warnings():
                warnings.simplefilter("error")
                compile(path.read_text("utf-8"), str(path), "exec")

    def test_imports(self):
        for path, tree in self.each():
            imported = []
            for node in ast.walk(tree):
                self.assertNotIsInstance(node, ast.Import)
                if not isinstance(node, ast.ImportFrom):
                    continue
                self.assertIn(node, tree.body)
                self.assertEqual(node.level, 0)
                names = [alias.name for alias in node.names]
                self.assertTrue(all(alias.asname is None for alias in node.names))
                known = LIBRARY[node.module] if node.module in LIBRARY else defined(TREES[node.module])
                self.assertTrue(set(names) <= set(known), names)
                imported.extend(names)
            self.assertEqual(len(imported + defined(tree)), len(set(imported + defined(tree))))
            used = {node.id for node in ast.walk(tree) if isinstance(node, ast.Name)}
            self.assertEqual(set(imported) - used, set())

    def test_no_circles(self):
        after = {name: {node.module for node in tree.body if isinstance(node, ast.ImportFrom)} & set(TREES)
                 for name, tree in TREES.items()}
        left = set(after)
        while left:
            free = {name for name in left if not after[name] & left}
            self.assertTrue(free, left)
            left -= free

    def test_module_level(self):
        for _, tree in self.each():
            for node in tree.body[1:]:
                self.assertIsInstance(node, (ast.ImportFrom, ast.FunctionDef, ast.ClassDef, ast.Assign))
            self.assertIsNotNone(ast.get_docstring(tree))

    def test_nodes(self):
        for _, tree in self.each():
            for node in ast.walk(tree):
                self.assertNotIsInstance(node, BANNED)
                if isinstance(node, ast.stmt):
                    self.assertIsInstance(node, STATEMENTS)
                if isinstance(node, ast.Constant):
                    self.assertNotIsInstance(node.value, (float, complex, bytes))
                    if isinstance(node.value, str):
                        self.assertNotIn("%", node.value)
                if isinstance(node, ast.BinOp) and isinstance(node.op, ast.Pow):
                    self.assertIsInstance(node.right, ast.Constant)
                    self.assertTrue(0 <= node.right.value <= 64)
                if isinstance(node, ast.Compare) and any(isinstance(op, (ast.Is, ast.IsNot)) for op in node.ops):
                    self.assertIn(node.comparators[0].value, (None, True, False))
                if isinstance(node, (ast.FunctionDef, ast.ClassDef)):
                    self.check_decorators(node)
                if isinstance(node, ast.Try):
                    self.check_handlers(node)

    def check_handlers(self, node):
        """Only errors of the package are caught, by their names."""
        self.assertFalse(node.finalbody)
        own = set(defined(TREES["wildsteps.errors"]))
        for handler in node.handlers:
            kinds = handler.type.elts if isinstance(handler.type, ast.Tuple) else [handler.type]
            self.assertTrue({kind.id for kind in kinds} <= own)

    def check_decorators(self, node):
        names = [decorator.id for decorator in node.decorator_list]
        self.assertIn(names, ([], ["property"], ["classmethod"], ["staticmethod"]))
        if isinstance(node, ast.FunctionDef):
            self.assertFalse(node.args.vararg or node.args.kwarg or node.args.posonlyargs)
            for default in node.args.defaults + node.args.kw_defaults:
                self.assertIsInstance(default, ast.Constant)
            self.assertIsNone(node.returns)
            if node.name.startswith("__"):
                self.assertIn(node.name, SPECIAL)

    def test_names(self):
        everything = set(dir(builtins))
        own = {name for tree in TREES.values() for name in defined(tree)}
        for _, tree in self.each():
            imported = {alias.name for node in tree.body if isinstance(node, ast.ImportFrom) for alias in node.names}
            classes = {node.name for node in tree.body if isinstance(node, ast.ClassDef)}
            for node in ast.walk(tree):
                if isinstance(node, ast.arg):
                    bound = node.arg
                elif isinstance(node, ast.Name) and isinstance(node.ctx, ast.Store):
                    bound = node.id
                else:
                    if isinstance(node, ast.Name) and node.id in everything and node.id not in own:
                        self.assertIn(node.id, BUILTINS)
                    continue
                self.assertNotIn(bound, everything | imported | classes | NEVER)
                self.assertTrue(bound == "_" or not bound.startswith("__"))
            for node in ast.walk(tree):
                if isinstance(node, ast.Name) and node.id == "_":
                    self.assertIsInstance(node.ctx, ast.Store)

    def test_words(self):
        for path, tree in self.each():
            names = {node.id for node in ast.walk(tree) if isinstance(node, ast.Name)}
            names |= {node.attr for node in ast.walk(tree) if isinstance(node, ast.Attribute)}
            self.assertEqual(names & (set(WORDS) | NEVER | {"type"}), set())
            for word in ("dataclass", "overload", "contextmanager", "_wall", "_WallAttr"):
                self.assertNotIn(word, path.read_text("utf-8"))

    def test_calls(self):
        methods = {node.name for tree in TREES.values() for cls in tree.body if isinstance(cls, ast.ClassDef)
                   for node in cls.body if isinstance(node, ast.FunctionDef)}
        for _, tree in self.each():
            for node in ast.walk(tree):
                if not isinstance(node, ast.Call):
                    continue
                if isinstance(node.func, ast.Attribute):
                    self.assertIn(node.func.attr, METHODS | methods)
                self.assertNotIsInstance(node.func, (ast.Constant, ast.Call, ast.Subscript))
                if isinstance(node.func, ast.Name) and node.func.id in ("any", "all"):
                    self.assertIn(len(node.args), (1,))
                    self.assertNotIsInstance(node.args[0], ast.GeneratorExp)

    def test_loops_leave_what_they_go_over(self):
        for _, tree in self.each():
            for node in ast.walk(tree):
                if isinstance(node, ast.For):
                    inside = [part for stmt in node.body for part in ast.walk(stmt)]
                    over = {part.id for part in ast.walk(node.iter) if isinstance(part, ast.Name)}
                    for part in inside:
                        if isinstance(part, ast.Subscript) and isinstance(part.ctx, ast.Store):
                            self.assertNotIn(getattr(part.value, "id", None), over)
                        if isinstance(part, ast.Call) and isinstance(part.func, ast.Attribute) \
                                and part.func.attr in ("append", "pop", "extend", "insert", "remove", "clear"):
                            self.assertNotIn(getattr(part.func.value, "id", None), over)


if __name__ == "__main__":
    unittest.main()
