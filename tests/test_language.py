"""The package keeps to its part of Python: what of LANGUAGE.md can be read off the source."""

import ast
import builtins
import re
import unittest
from pathlib import Path

FOLDER = Path(__file__).resolve().parent.parent / "onesuit"
FILES = sorted(path for path in FOLDER.iterdir() if path.name != "__pycache__")

NODES = """Module FunctionDef ClassDef Return Assign AugAssign For While If Expr Pass Break Continue ImportFrom alias
arguments arg Lambda IfExp Dict List Tuple ListComp comprehension Compare Call keyword Constant Attribute Subscript Slice
Name BoolOp BinOp UnaryOp And Or Not USub Add Sub Mult FloorDiv Mod Load Store Eq NotEq Lt LtE Gt GtE In NotIn Is IsNot
""".split()
BUILTINS = """len range enumerate zip min max sum abs sorted reversed int str bool list tuple dict set isinstance ord repr
any all divmod""".split()
METHODS = """append clear copy count endswith extend find get index insert items join keys pop remove replace reverse
setdefault split startswith strip update values bit_length""".split()
WORDS = """type typing typing_extensions enum Enum IntEnum StrEnum Flag IntFlag Generic Protocol ABC ABCMeta namedtuple
NamedTuple TypedDict TYPE_CHECKING abstractmethod""".split()
MODULES = ["__init__.py", "defence.py", "odds.py", "search.py", "splits.py", "table.py"]


def walk(path):
    return ast.walk(ast.parse(path.read_text()))


def owned(path):
    """The names that the file defines or imports at its top."""
    names = set()
    for node in ast.parse(path.read_text()).body:
        if isinstance(node, (ast.FunctionDef, ast.ClassDef)):
            names.add(node.name)
        if isinstance(node, ast.ImportFrom):
            names.update(alias.name for alias in node.names)
        if isinstance(node, ast.Assign):
            names.add(node.targets[0].id)
    return names


class Language(unittest.TestCase):
    def test_files(self):
        self.assertEqual([path.name for path in FILES], MODULES)

    def test_signs_and_words(self):
        for path in FILES:
            text = path.read_text()
            self.assertEqual(re.findall(r"[^\n -~]", text), [])
            found = re.findall(r"\w+", text)
            self.assertEqual([word for word in found if word in WORDS], [])

    def test_sizes(self):
        for path in FILES:
            lines = path.read_text().split("\n")
            self.assertLessEqual(len(lines), 400)
            self.assertLessEqual(max(len(line) for line in lines), 120)
            for node in walk(path):
                if isinstance(node, ast.FunctionDef):
                    self.assertLessEqual(node.end_lineno - node.lineno + 1, 40, node.name)

    def test_forms(self):
        for path in FILES:
            for node in walk(path):
                self.assertIn(type(node).__name__, NODES)
                if isinstance(node, ast.Constant):
                    self.assertIn(type(node.value), (int, str, bool, type(None)))
                if isinstance(node, ast.Assign):
                    self.assertEqual(len(node.targets), 1)
                if isinstance(node, (ast.For, ast.While)):
                    self.assertEqual(node.orelse, [])
                if isinstance(node, (ast.FunctionDef, ast.ClassDef)):
                    self.assertEqual(node.decorator_list, [])
                if isinstance(node, ast.ListComp):
                    self.assertEqual(len(node.generators), 1)
                    self.assertLessEqual(len(node.generators[0].ifs), 1)

    def test_imports(self):
        defined = {path.stem: owned(path) for path in FILES}
        drawn = {path.stem: set() for path in FILES}
        for path in FILES:
            for node in walk(path):
                if isinstance(node, ast.ImportFrom):
                    self.assertEqual((node.level, node.module.split(".")[0]), (0, "onesuit"))
                    source = node.module.split(".")[1]
                    drawn[path.stem].add(source)
                    for alias in node.names:
                        self.assertIn(alias.name, defined[source])
                        self.assertIsNone(alias.asname)
        while drawn:
            free = [name for name in drawn if not drawn[name] & set(drawn)]
            self.assertNotEqual(free, [], "files draw from one another")
            drawn = {name: sources for name, sources in drawn.items() if name not in free}

    def test_names(self):
        for path in FILES:
            known = owned(path)
            bound = {node.id for node in walk(path) if isinstance(node, ast.Name) and isinstance(node.ctx, ast.Store)}
            bound |= {node.arg for node in walk(path) if isinstance(node, ast.arg)}
            for name in bound:
                self.assertRegex(name, r"^[A-Za-z][A-Za-z0-9_]*$")
                self.assertNotIn(name, dir(builtins))
                self.assertTrue(name not in known or name.isupper(), name)
            for node in walk(path):
                if isinstance(node, ast.Name) and isinstance(node.ctx, ast.Load):
                    self.assertTrue(node.id in known or node.id in bound or node.id in BUILTINS, node.id)

    def test_methods_and_values(self):
        methods = set()
        values = set()
        called = set()
        for path in FILES:
            for node in walk(path):
                if isinstance(node, ast.ClassDef):
                    methods |= {part.name for part in node.body if isinstance(part, ast.FunctionDef)}
                if isinstance(node, ast.Attribute) and isinstance(node.ctx, ast.Store):
                    values.add(node.attr)
                if isinstance(node, ast.Call) and isinstance(node.func, ast.Attribute):
                    called.add(node.func.attr)
        self.assertEqual(methods & values, set())
        self.assertEqual(called - methods - set(METHODS), set())
        for kind in (str, int, list, tuple, dict, set, bytes):
            self.assertEqual((values | methods - {"__init__"}) & set(dir(kind)), set())


if __name__ == "__main__":
    unittest.main()
