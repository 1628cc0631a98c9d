"""The package's files keep to the part of Python that the project uses.

Each test names the rules it looks at; it sees what a look at one file can see, not every rule.
"""

import ast
import builtins
import pathlib
import re
import unittest

FOLDER = pathlib.Path(__file__).resolve().parent.parent / "busyweb"
FILES = sorted(FOLDER.glob("*.py"))

STATEMENTS = (ast.FunctionDef, ast.ClassDef, ast.ImportFrom, ast.Assign, ast.AugAssign, ast.If, ast.While, ast.For,
              ast.Return, ast.Break, ast.Continue, ast.Pass, ast.Raise, ast.Try, ast.Expr)
EXPRESSIONS = (ast.BoolOp, ast.BinOp, ast.UnaryOp, ast.Compare, ast.Call, ast.IfExp, ast.Attribute, ast.Subscript,
               ast.Slice, ast.Name, ast.Constant, ast.List, ast.Tuple, ast.Dict, ast.Set, ast.ListComp, ast.Lambda,
               ast.JoinedStr, ast.FormattedValue)
NAMES = set("""len range enumerate zip min max sum abs sorted reversed int str bool list tuple dict set frozenset
isinstance ord repr any all divmod Exception ValueError TypeError KeyError IndexError LookupError ZeroDivisionError
ArithmeticError OverflowError RuntimeError NotImplementedError AttributeError StopIteration""".split())
METHODS = set("""append clear copy count endswith extend find get index insert isalnum isalpha isdigit islower isspace
isupper items join keys ljust lower lstrip partition pop remove replace reverse rfind rjust rpartition rsplit rstrip
setdefault split splitlines startswith strip update upper values zfill bit_length""".split())
OWN_DUNDERS = {"__init__", "__eq__", "__repr__", "__str__", "__len__"}
WORDS = """type typing typing_extensions enum Enum IntEnum StrEnum Flag IntFlag Generic Protocol ABC ABCMeta namedtuple
NamedTuple TypedDict TYPE_CHECKING abstractmethod""".split()
PARTS = ("dataclass", "overload", "contextmanager")


BUILT_IN = {name for name in dir(builtins) if not name.startswith("_")}


class Source:
    """One file of the package, read once."""

    def __init__(self, path):
        self.name = path.stem
        self.text = path.read_text()
        self.tree = ast.parse(self.text)

    def nodes(self, *kinds):
        return [node for node in ast.walk(self.tree) if isinstance(node, kinds)]

    def at(self, node):
        return f"{self.name}.py, row {node.lineno}"

    def drawn(self):
        return [node.module for node in self.nodes(ast.ImportFrom)]

    def defined(self):
        return [part.name for part in self.tree.body if isinstance(part, (ast.FunctionDef, ast.ClassDef))]


SOURCES = [Source(path) for path in FILES]


class Files(unittest.TestCase):
    def test_files_alone(self):
        """L1, L14."""
        found = [path for path in FOLDER.iterdir() if path.name != "__pycache__"]
        self.assertEqual(sorted(found), FILES)
        self.assertIn("__init__", [source.name for source in SOURCES])
        for source in SOURCES:
            self.assertRegex(source.name, r"\A[a-z0-9_]+\Z")
            self.assertNotIn(source.name, BUILT_IN)

    def test_signs_and_size(self):
        """L10, L14."""
        for source in SOURCES:
            self.assertRegex(source.text, r"\A[ -~\n]*\Z", source.name)
            rows = source.text.splitlines()
            self.assertLessEqual(len(rows), 400, source.name)
            self.assertLessEqual(max(len(row) for row in rows), 120, source.name)
            for node in source.nodes(ast.FunctionDef):
                self.assertLessEqual(node.end_lineno - node.lineno + 1, 40, source.at(node))

    def test_words(self):
        """L17."""
        for source in SOURCES:
            found = re.findall(r"\w+", source.text)
            self.assertEqual([word for word in WORDS if word in found], [], source.name)
            self.assertEqual([part for part in PARTS if part in source.text], [], source.name)

    def test_imports(self):
        """L2, L16."""
        known = {f"busyweb.{source.name}": source for source in SOURCES}
        for source in SOURCES:
            self.assertEqual(source.nodes(ast.Import), [], source.name)
            for node in source.nodes(ast.ImportFrom):
                self.assertEqual((node.level, node.col_offset), (0, 0), source.at(node))
                self.assertIn(node.module, known)
                for alias in node.names:
                    self.assertIn(alias.name, known[node.module].defined(), source.at(node))

    def test_no_two_files_draw_from_one_another(self):
        """L16."""
        draws = {f"busyweb.{source.name}": source.drawn() for source in SOURCES}
        while draws:
            ready = [name for name, drawn in draws.items() if not set(drawn) & set(draws)]
            self.assertTrue(ready, draws)
            draws = {name: drawn for name, drawn in draws.items() if name not in ready}


class Forms(unittest.TestCase):
    def test_statements(self):
        """L3, L6."""
        for source in SOURCES:
            words = source.tree.body[0]
            for node in source.nodes(ast.stmt):
                self.assertIsInstance(node, STATEMENTS, source.at(node))
                self.assertFalse(isinstance(node, (ast.For, ast.While)) and node.orelse, source.at(node))
                self.assertFalse(isinstance(node, ast.Assign) and len(node.targets) > 1, source.at(node))
                self.assertFalse(isinstance(node, ast.Try) and node.finalbody, source.at(node))
                if isinstance(node, ast.Expr) and node is not words:
                    self.assertIsInstance(node.value, ast.Call, source.at(node))
            for node in source.tree.body[1:]:
                self.assertIsInstance(node, (ast.ImportFrom, ast.FunctionDef, ast.ClassDef, ast.Assign),
                                      source.at(node))

    def test_expressions(self):
        """L7."""
        for source in SOURCES:
            for node in source.nodes(ast.expr):
                self.assertIsInstance(node, EXPRESSIONS, source.at(node))
            for node in source.nodes(ast.Constant):
                self.assertNotIsInstance(node.value, (float, bytes, complex), source.at(node))
            self.assertEqual(source.nodes(ast.Div), [], source.name)
            for node in source.nodes(ast.ListComp):
                self.assertEqual(len(node.generators), 1, source.at(node))
                self.assertLessEqual(len(node.generators[0].ifs), 1, source.at(node))

    def test_is(self):
        """L20."""
        for source in SOURCES:
            for node in source.nodes(ast.Compare):
                for sign, side in zip(node.ops, node.comparators):
                    if isinstance(sign, (ast.Is, ast.IsNot)):
                        self.assertIsInstance(side, ast.Constant, source.at(node))
                        self.assertTrue(side.value is None or isinstance(side.value, bool), source.at(node))

    def test_functions_and_classes(self):
        """L4, L5, L15, L21."""
        for source in SOURCES:
            for node in source.nodes(ast.FunctionDef):
                given = node.args
                self.assertFalse(node.decorator_list or given.vararg or given.kwarg or given.kwonlyargs or node.returns
                                 or any(one.annotation for one in given.args), source.at(node))
            for node in source.nodes(ast.ClassDef):
                self.assertIn(node, source.tree.body, source.at(node))
                self.assertFalse(node.decorator_list or node.keywords or len(node.bases) > 1, source.at(node))
                for part in node.body:
                    self.assertIsInstance(part, (ast.FunctionDef, ast.Pass), source.at(part))

    def test_names(self):
        """L8, L12, L15, L17."""
        for source in SOURCES:
            taken = [alias.name for node in source.nodes(ast.ImportFrom) for alias in node.names]
            taken += [node.name for node in source.nodes(ast.ClassDef)]
            bound = [node.id for node in source.nodes(ast.Name) if isinstance(node.ctx, ast.Store)]
            bound += [node.arg for node in source.nodes(ast.arg)]
            for name in bound:
                self.assertFalse(name.startswith("_") or name in BUILT_IN or name in taken, (source.name, name))
            for node in source.nodes(ast.FunctionDef, ast.ClassDef):
                self.assertTrue(node.name in OWN_DUNDERS or not node.name.startswith("_"), source.at(node))
                self.assertNotIn(node.name, BUILT_IN, source.at(node))
            for node in source.nodes(ast.Name):
                self.assertFalse(node.id in BUILT_IN and node.id not in NAMES, source.at(node))

    def test_methods_of_pythons_own_values(self):
        """L25: what is called behind a dot is one of those, or a method of the package's own."""
        own = {node.name for source in SOURCES for node in source.nodes(ast.FunctionDef)}
        for source in SOURCES:
            for node in source.nodes(ast.Call):
                if isinstance(node.func, ast.Attribute):
                    self.assertIn(node.func.attr, METHODS | own, source.at(node))

    def test_numbers_and_texts(self):
        """L27: written exponents alone, and no sign for rests within a text."""
        for source in SOURCES:
            for node in source.nodes(ast.BinOp, ast.AugAssign):
                if isinstance(node.op, ast.Pow):
                    self.assertIsInstance(node, ast.BinOp, source.at(node))
                    self.assertIsInstance(node.right, ast.Constant, source.at(node))
                    self.assertIn(node.right.value, range(65), source.at(node))
            for node in source.nodes(ast.Constant):
                if isinstance(node.value, str):
                    self.assertNotIn("%", node.value, source.at(node))


if __name__ == "__main__":
    unittest.main()
