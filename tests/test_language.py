"""The package's files keep to the part of Python that the program is written in (as far as a check can see)."""

import ast
import builtins
import pathlib
import re
import unittest

PACKAGE = pathlib.Path(__file__).resolve().parent.parent / "notebooktests"

STATEMENTS = (
    ast.Assign, ast.AugAssign, ast.If, ast.While, ast.For, ast.Return, ast.Break, ast.Continue, ast.Pass, ast.Raise,
    ast.Try, ast.Expr, ast.FunctionDef, ast.ClassDef, ast.ImportFrom)
EXPRESSIONS = (
    ast.Constant, ast.List, ast.Tuple, ast.Dict, ast.BinOp, ast.UnaryOp, ast.Compare, ast.BoolOp, ast.IfExp, ast.Call,
    ast.Attribute, ast.Subscript, ast.Slice, ast.ListComp, ast.Name, ast.Lambda)
OWN_NAMES = set(
    "len range enumerate zip min max sum abs sorted reversed int str bool list tuple dict set frozenset isinstance ord "
    "repr any all divmod Exception ValueError TypeError KeyError IndexError LookupError ZeroDivisionError "
    "ArithmeticError OverflowError RuntimeError NotImplementedError".split())
METHODS = set(
    "append clear copy count endswith extend find get index insert isalnum isalpha isdigit islower isspace isupper "
    "items join keys ljust lower lstrip partition pop remove replace reverse rfind rjust rpartition rsplit rstrip "
    "setdefault split splitlines startswith strip update upper values zfill bit_length".split())
NOWHERE = (
    "type typing typing_extensions enum Enum IntEnum StrEnum Flag IntFlag Generic Protocol ABC ABCMeta namedtuple "
    "NamedTuple TypedDict TYPE_CHECKING abstractmethod").split()
NOT_AS_NAMES = set("register mro elements open input version_info with_traceback add_note args".split())
METHODS_OF_VALUES = set(dir("")) | set(dir(0)) | set(dir([])) | set(dir({})) | set(dir(set())) | set(dir(b""))


def files():
    return [path for path in sorted(PACKAGE.rglob("*")) if "__pycache__" not in path.parts]


def trees():
    return [(path.name, ast.parse(path.read_text(encoding="utf-8"))) for path in files()]


def nodes():
    return [(name, node) for name, tree in trees() for node in ast.walk(tree)]


def bound_names(node):
    if isinstance(node, ast.Name) and isinstance(node.ctx, ast.Store):
        return [node.id]
    if isinstance(node, (ast.FunctionDef, ast.ClassDef)):
        return [node.name]
    if isinstance(node, ast.arg):
        return [node.arg]
    return []


class Language(unittest.TestCase):
    def test_files(self):
        for path in files():
            self.assertRegex(path.name, r"\A[a-z0-9_]+\.py\Z")
            self.assertNotRegex(path.name, r"\A(tests?|testing|test_.*|site|conftest)\.py\Z")
        self.assertIn("__init__.py", [path.name for path in files()])

    def test_size_and_signs(self):
        for path in files():
            text = path.read_text(encoding="utf-8")
            self.assertRegex(text, r"\A[\n -~]*\Z", path.name)
            self.assertLessEqual(len(text.splitlines()), 400, path.name)
            self.assertLessEqual(max(len(line) for line in text.splitlines()), 120, path.name)

    def test_words(self):
        for path in files():
            text = path.read_text(encoding="utf-8")
            self.assertEqual([word for word in NOWHERE if re.search(r"\b" + word + r"\b", text)], [], path.name)
            self.assertNotRegex(text, "dataclass|overload|contextmanager")

    def test_functions(self):
        for name, node in nodes():
            if isinstance(node, ast.FunctionDef):
                self.assertLessEqual(node.end_lineno - node.lineno + 1, 40, (name, node.name))
                self.assertEqual(node.decorator_list, [])
                arguments = node.args
                self.assertFalse(arguments.vararg or arguments.kwarg or arguments.kwonlyargs or arguments.posonlyargs)

    def test_classes(self):
        for name, node in nodes():
            if isinstance(node, ast.ClassDef):
                self.assertLessEqual(len(node.bases), 1, (name, node.name))
                self.assertEqual((node.decorator_list, node.keywords), ([], []))
                self.assertTrue(all(isinstance(part, (ast.FunctionDef, ast.Pass)) for part in node.body))

    def test_top_of_a_file(self):
        for name, tree in trees():
            bound = []
            for node in tree.body:
                is_docstring = isinstance(node, ast.Expr) and isinstance(node.value, ast.Constant)
                kinds = (ast.ImportFrom, ast.FunctionDef, ast.ClassDef, ast.Assign)
                self.assertTrue(is_docstring or isinstance(node, kinds), (name, node.lineno))
                if isinstance(node, ast.Assign):
                    ast.literal_eval(node.value)
                    bound.append(node.targets[0].id)
                if isinstance(node, (ast.FunctionDef, ast.ClassDef)):
                    bound.append(node.name)
                if isinstance(node, ast.ImportFrom):
                    bound.extend(part.name for part in node.names)
            self.assertEqual(len(bound), len(set(bound)), name)

    def test_imports(self):
        defined = {}
        drawn = {}
        for name, tree in trees():
            module = "notebooktests." + name[:-3]
            defined[module] = {part for node in tree.body for part in bound_names(node)}
            defined[module] |= {node.targets[0].id for node in tree.body if isinstance(node, ast.Assign)}
            drawn[module] = [node for node in tree.body if isinstance(node, ast.ImportFrom)]
        for module, rows in drawn.items():
            for row in rows:
                self.assertEqual((row.level, [part.asname for part in row.names if part.asname]), (0, []), module)
                self.assertLessEqual({part.name for part in row.names}, defined[row.module], (module, row.module))
        left = {module: {row.module for row in rows} for module, rows in drawn.items()}
        while left:
            free = [module for module in left if not left[module] & set(left)]
            self.assertTrue(free, left)
            left = {module: left[module] for module in left if module not in free}

    def test_statements_and_expressions(self):
        for name, node in nodes():
            where = (name, getattr(node, "lineno", 0))
            if isinstance(node, ast.stmt):
                self.assertIsInstance(node, STATEMENTS, where)
            if isinstance(node, ast.expr):
                self.assertIsInstance(node, EXPRESSIONS, where)
            if isinstance(node, ast.Assign):
                self.assertEqual(len(node.targets), 1, where)
            if isinstance(node, (ast.For, ast.While, ast.Try)):
                self.assertEqual(node.orelse if not isinstance(node, ast.Try) else node.finalbody, [], where)
            if isinstance(node, (ast.Div, ast.MatMult)):
                self.fail((name, "a division that is not of whole numbers"))
            if isinstance(node, ast.Constant):
                self.assertIn(type(node.value), (int, str, bool, type(None)), where)
            if isinstance(node, ast.Compare) and any(isinstance(sign, (ast.Is, ast.IsNot)) for sign in node.ops):
                self.assertIsInstance(node.comparators[-1], ast.Constant, where)

    def test_names(self):
        pythons = set(dir(builtins))
        for name, tree in trees():
            imported = {part.name for node in tree.body if isinstance(node, ast.ImportFrom) for part in node.names}
            for node in ast.walk(tree):
                where = (name, getattr(node, "lineno", 0))
                for word in bound_names(node):
                    self.assertNotIn(word, pythons | NOT_AS_NAMES | imported, where)
                    self.assertTrue(not word.startswith("_") or word == "__init__", where)
                if isinstance(node, ast.Name) and node.id in pythons:
                    self.assertIn(node.id, OWN_NAMES, where)

    def test_methods_and_values(self):
        for name, node in nodes():
            if isinstance(node, ast.Attribute) and isinstance(node.ctx, ast.Store):
                self.assertNotIn(node.attr, METHODS_OF_VALUES | NOT_AS_NAMES, (name, node.lineno))
            if isinstance(node, ast.Call) and isinstance(node.func, ast.Attribute):
                self.assertIn(node.func.attr, METHODS, (name, node.lineno))


if __name__ == "__main__":
    unittest.main()
