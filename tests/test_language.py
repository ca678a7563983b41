"""The form of the package's own files: the part of the language that it keeps to, as far as this can be seen plainly."""

import ast
import builtins
import re
import unittest
from pathlib import Path

PACKAGE = Path(__file__).resolve().parent.parent / "echohouse"
FILES = sorted(PACKAGE.rglob("*.py"))

OWN_NAMES = set(
    "len range enumerate zip min max sum abs sorted reversed int str bool bytes list tuple dict set frozenset"
    " isinstance ord repr any all divmod Exception ValueError TypeError KeyError IndexError LookupError"
    " ZeroDivisionError ArithmeticError OverflowError RuntimeError NotImplementedError AttributeError"
    " StopIteration".split())
METHODS = set(
    "append clear copy count endswith extend find get index insert isalnum isalpha isdigit islower isspace isupper"
    " items join keys ljust lower lstrip partition pop remove replace reverse rfind rjust rpartition rsplit rstrip"
    " setdefault split splitlines startswith strip update upper values zfill bit_length title capitalize swapcase"
    " casefold center expandtabs removeprefix removesuffix rindex isascii isdecimal isnumeric istitle isidentifier"
    " isprintable add discard sort __init__".split())
SPECIAL = {"__init__", "__eq__", "__repr__", "__str__", "__len__"}
NOT_WRITTEN = set(
    "type typing typing_extensions enum Enum IntEnum StrEnum Flag IntFlag Generic Protocol ABC ABCMeta namedtuple"
    " NamedTuple TypedDict TYPE_CHECKING abstractmethod".split())
OUTSIDE = (
    ast.With, ast.Match, ast.Global, ast.Nonlocal, ast.Yield, ast.YieldFrom, ast.AsyncFunctionDef, ast.Await,
    ast.GeneratorExp, ast.NamedExpr, ast.Div, ast.MatMult, ast.Import,
)


def own_methods(trees):
    return {
        inner.name for tree in trees for node in ast.walk(tree) if isinstance(node, ast.ClassDef)
        for inner in node.body if isinstance(inner, ast.FunctionDef)
    }


class Form(unittest.TestCase):
    def setUp(self):
        self.texts = {file: file.read_text(encoding="utf-8") for file in FILES}
        self.trees = {file: ast.parse(text) for file, text in self.texts.items()}

    def nodes(self, kinds):
        return [(file.name, node) for file, tree in self.trees.items() for node in ast.walk(tree)
                if isinstance(node, kinds)]

    def test_there_are_files(self):
        self.assertIn("__init__.py", [file.name for file in FILES])

    def test_nothing_else_lies_there(self):
        for path in PACKAGE.rglob("*"):
            if "__pycache__" not in path.parts:
                self.assertTrue(path.is_dir() or re.fullmatch(r"[a-z0-9_]+\.py", path.name), path)

    def test_size_and_signs(self):
        for file, text in self.texts.items():
            rows = text.split("\n")
            self.assertLessEqual(len(rows), 401, file)
            for row in rows:
                self.assertLessEqual(len(row), 120, (file, row))
                self.assertTrue(all(" " <= sign <= "~" for sign in row), (file, row))
            for word in re.findall(r"\w+", text):
                self.assertNotIn(word, NOT_WRITTEN, file)

    def test_functions(self):
        for name, node in self.nodes(ast.FunctionDef):
            self.assertLessEqual(node.end_lineno - node.lineno + 1, 40, (name, node.name))
            self.assertFalse(node.decorator_list or node.args.vararg or node.args.kwarg or node.args.posonlyargs)
            for argument in node.args.args:
                self.assertFalse(hasattr(builtins, argument.arg), (name, argument.arg))

    def test_classes(self):
        for name, node in self.nodes(ast.ClassDef):
            self.assertLessEqual(len(node.bases), 1)
            self.assertFalse(node.decorator_list or node.keywords)
            for inner in node.body:
                docstring = isinstance(inner, ast.Expr) and isinstance(inner.value, ast.Constant)
                self.assertTrue(docstring or isinstance(inner, (ast.FunctionDef, ast.Pass)), (name, node.name))

    def test_nothing_outside(self):
        for name, node in self.nodes(OUTSIDE):
            self.fail(f"{name}: {node}")
        for name, node in self.nodes((ast.For, ast.While)):
            self.assertEqual(node.orelse, [], name)
        for name, node in self.nodes(ast.Constant):
            self.assertNotIsInstance(node.value, (float, complex), name)
            self.assertFalse(isinstance(node.value, str) and "%" in node.value, name)
        for name, node in self.nodes(ast.Compare):
            for deed, right in zip(node.ops, node.comparators):
                if isinstance(deed, (ast.Is, ast.IsNot)):
                    self.assertTrue(isinstance(right, ast.Constant) and right.value in (None, True, False), name)
        for name, node in self.nodes(ast.BinOp):
            if isinstance(node.op, ast.Pow):
                self.assertTrue(isinstance(node.right, ast.Constant) and 0 <= node.right.value <= 64, name)

    def test_imports(self):
        defined = {
            "echohouse." + file.stem: {
                found.id if isinstance(found, ast.Name) else found.name
                for node in tree.body
                for found in (node.targets if isinstance(node, ast.Assign) else [node])
                if isinstance(found, (ast.Name, ast.FunctionDef, ast.ClassDef))
            }
            for file, tree in self.trees.items()
        }
        for name, node in self.nodes(ast.ImportFrom):
            self.assertEqual((node.level, node.col_offset), (0, 0), name)
            for drawn in node.names:
                self.assertIn(drawn.name, defined.get(node.module, ()), name)

    def test_names(self):
        for name, node in self.nodes(ast.Name):
            if hasattr(builtins, node.id):
                self.assertIn(node.id, OWN_NAMES, name)
                self.assertIsInstance(node.ctx, ast.Load, (name, node.id))
            self.assertRegex(node.id, r"\A[A-Za-z][A-Za-z0-9_]*\Z")
        for name, node in self.nodes(ast.FunctionDef):
            if node.name not in SPECIAL:
                self.assertFalse(node.name.startswith("_") or hasattr(builtins, node.name), (name, node.name))

    def test_no_name_is_given_that_is_drawn_in_or_a_class(self):
        for file, tree in self.trees.items():
            taken = {drawn.name for node in tree.body if isinstance(node, ast.ImportFrom) for drawn in node.names}
            taken |= {node.name for node in tree.body if isinstance(node, ast.ClassDef)}
            given = [node.id for node in ast.walk(tree) if isinstance(node, ast.Name) and isinstance(node.ctx, ast.Store)]
            given += [node.arg for node in ast.walk(tree) if isinstance(node, ast.arg)]
            self.assertFalse(taken & set(given), file)

    def test_no_name_is_a_method_and_a_value(self):
        values = {node.attr for name, node in self.nodes(ast.Attribute) if isinstance(node.ctx, ast.Store)}
        self.assertFalse(values & own_methods(self.trees.values()))
        called = {id(node.func) for name, node in self.nodes(ast.Call)}
        for name, node in self.nodes(ast.Attribute):
            if id(node) not in called:
                self.assertIn(node.attr, values, name)

    def test_own_names_as_they_are_called(self):
        kinds = {"int", "str", "bool", "bytes", "list", "tuple", "dict"} | {
            node.name for name, node in self.nodes(ast.ClassDef)}
        for name, node in self.nodes(ast.Call):
            if isinstance(node.func, ast.Name) and node.func.id == "isinstance":
                asked = node.args[1].elts if isinstance(node.args[1], ast.Tuple) else [node.args[1]]
                self.assertTrue({kind.id for kind in asked} <= kinds, name)
        called = {id(node.func) for name, node in self.nodes(ast.Call)} | {
            id(kind) for name, node in self.nodes(ast.Call) if isinstance(node.func, ast.Name)
            and node.func.id == "isinstance" for kind in ast.walk(node.args[1])} | {
            id(base) for name, node in self.nodes(ast.ClassDef) for base in node.bases} | {
            id(node.type) for name, node in self.nodes(ast.ExceptHandler)}
        for name, node in self.nodes(ast.Name):
            if node.id in OWN_NAMES:
                self.assertIn(id(node), called, (name, node.id))

    def test_what_is_walked_at_once_is_not_kept(self):
        walked = set()
        for name, node in self.nodes((ast.For, ast.comprehension)):
            walked.add(id(node.iter))
        for name, node in self.nodes(ast.Call):
            if isinstance(node.func, ast.Name):
                walked |= {id(thing) for thing in node.args}
        for name, node in self.nodes(ast.Call):
            asked = node.func.id if isinstance(node.func, ast.Name) else getattr(node.func, "attr", "")
            if asked in ("zip", "enumerate", "reversed", "range", "items", "keys", "values"):
                self.assertIn(id(node), walked, (name, node.lineno))

    def test_no_files_draw_from_one_another(self):
        drawn = {"echohouse." + file.stem: {node.module for node in tree.body if isinstance(node, ast.ImportFrom)}
                 for file, tree in self.trees.items()}
        while drawn:
            free = [name for name, others in drawn.items() if not others & set(drawn)]
            self.assertTrue(free, drawn)
            for name in free:
                del drawn[name]

    def test_methods(self):
        own = own_methods(self.trees.values())
        for name, node in self.nodes(ast.Call):
            if isinstance(node.func, ast.Attribute):
                self.assertIn(node.func.attr, METHODS | own, name)


if __name__ == "__main__":
    unittest.main()
