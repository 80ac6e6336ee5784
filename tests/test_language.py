"""The package keeps to its part of Python: what of LANGUAGE.md can be read off the source."""

import ast
import builtins
import re
import unittest
from pathlib import Path

FOLDER = Path(__file__).resolve().parent.parent / "onesuit"
FILES = sorted(path for path in FOLDER.iterdir() if path.name != "__pycache__")

NODES = """Module FunctionDef ClassDef Return Assign AugAssign For While If Expr Pass Break Continue ImportFrom alias
arguments arg Lambda IfExp Dict List Tuple ListComp comprehension Compare Call keyword Constant Attribute Subscript Slice
Name BoolOp BinOp UnaryOp And Or Not USub Add Sub Mult FloorDiv Mod Load Store Eq NotEq Lt LtE Gt GtE In NotIn Is IsNot
""".split()
BUILTINS = """len range enumerate zip min max sum abs sorted reversed int str bool list tuple dict set isinstance ord repr
any all divmod""".split()
METHODS = """append clear copy count endswith extend find get index insert items join keys pop remove replace reverse
setdefault split startswith strip update values bit_length""".split()
WORDS = """type typing typing_extensions enum Enum IntEnum StrEnum Flag IntFlag Generic Protocol ABC ABCMeta namedtuple
NamedTuple TypedDict TYPE_CHECKING abstractmethod""".split()
UNUSED = """register mro elements open input version_info with_traceback add_note attrgetter breakpoint builtins compile
copyright credits delattr dir eval exec exit gc getattr globals hasattr help id importlib license locals methodcaller os
quit setattr super type vars sys __name__ format format_map""".split()
KEYWORDS = {"sorted": ["key", "reverse"], "min": ["key", "default"], "max": ["key", "default"], "sum": ["start"],
            "enumerate": ["start"], "zip": ["strict"]}
WALKED = "zip enumerate reversed range items keys values".split()
WALKERS = "list tuple dict sorted sum any all enumerate zip min max".split()
MODULES = ["__init__.py", "defence.py", "odds.py", "plan.py", "search.py", "splits.py", "table.py", "trick.py"]


def walk(path):
    return ast.walk(ast.parse(path.read_text()))


def called_name(node):
    """The name of what is called, be it a function or a method; none, if no call stands here."""
    if not isinstance(node, ast.Call):
        return None
    return node.func.attr if isinstance(node.func, ast.Attribute) else node.func.id


def around(path):
    """Each node with the one that it stands in."""
    return [(inner, outer) for outer in walk(path) for inner in ast.iter_child_nodes(outer)]


def is_plain(node):
    """Whether the value is written out: numbers and texts, and tuples of these."""
    if isinstance(node, ast.UnaryOp):
        node = node.operand
    return isinstance(node, ast.Constant) or isinstance(node, ast.Tuple) and all(is_plain(part) for part in node.elts)


def owned(path):
    """The names that the file defines or imports at its top."""
    names = set()
    for node in ast.parse(path.read_text()).body:
        if isinstance(node, (ast.FunctionDef, ast.ClassDef)):
            names.add(node.name)
        if isinstance(node, ast.ImportFrom):
            names.update(alias.name for alias in node.names)
        if isinstance(node, ast.Assign):
            names.add(node.targets[0].id)
    return names


class Language(unittest.TestCase):
    def test_files(self):
        self.assertEqual([path.name for path in FILES], MODULES)

    def test_signs_and_words(self):
        for path in FILES:
            text = path.read_text()
            self.assertEqual(re.findall(r"[^\n -~]", text), [])
            found = re.findall(r"\w+", text)
            self.assertEqual([word for word in found if word in WORDS], [])

    def test_sizes(self):
        for path in FILES:
            lines = path.read_text().split("\n")
            self.assertLessEqual(len(lines), 400)
            self.assertLessEqual(max(len(line) for line in lines), 120)
            for node in walk(path):
                if isinstance(node, ast.FunctionDef):
                    self.assertLessEqual(node.end_lineno - node.lineno + 1, 40, node.name)

    def test_forms(self):
        for path in FILES:
            for node in walk(path):
                self.assertIn(type(node).__name__, NODES)
                if isinstance(node, ast.Constant):
                    self.assertIn(type(node.value), (int, str, bool, type(None)))
                if isinstance(node, ast.Assign):
                    self.assertEqual(len(node.targets), 1)
                if isinstance(node, (ast.For, ast.While)):
                    self.assertEqual(node.orelse, [])
                if isinstance(node, (ast.FunctionDef, ast.ClassDef)):
                    self.assertEqual(node.decorator_list, [])
                if isinstance(node, ast.ListComp):
                    self.assertEqual(len(node.generators), 1)
                    self.assertLessEqual(len(node.generators[0].ifs), 1)

    def test_imports(self):
        defined = {path.stem: owned(path) for path in FILES}
        drawn = {path.stem: set() for path in FILES}
        for path in FILES:
            for node in walk(path):
                if isinstance(node, ast.ImportFrom):
                    self.assertEqual((node.level, node.module.split(".")[0]), (0, "onesuit"))
                    source = node.module.split(".")[1]
                    drawn[path.stem].add(source)
                    for alias in node.names:
                        self.assertIn(alias.name, defined[source])
                        self.assertIsNone(alias.asname)
        while drawn:
            free = [name for name in drawn if not drawn[name] & set(drawn)]
            self.assertNotEqual(free, [], "files draw from one another")
            drawn = {name: sources for name, sources in drawn.items() if name not in free}

    def test_names(self):
        for path in FILES:
            known = owned(path)
            bound = {node.id for node in walk(path) if isinstance(node, ast.Name) and isinstance(node.ctx, ast.Store)}
            bound |= {node.arg for node in walk(path) if isinstance(node, ast.arg)}
            for name in bound:
                self.assertRegex(name, r"^[A-Za-z][A-Za-z0-9_]*$")
                self.assertNotIn(name, dir(builtins))
                self.assertTrue(name not in known or name.isupper(), name)
            for node in walk(path):
                if isinstance(node, ast.Name) and isinstance(node.ctx, ast.Load):
                    self.assertTrue(node.id in known or node.id in bound or node.id in BUILTINS, node.id)

    def test_methods_and_values(self):
        methods = set()
        values = set()
        called = set()
        for path in FILES:
            for node in walk(path):
                if isinstance(node, ast.ClassDef):
                    methods |= {part.name for part in node.body if isinstance(part, ast.FunctionDef)}
                if isinstance(node, ast.Attribute) and isinstance(node.ctx, ast.Store):
                    values.add(node.attr)
                if isinstance(node, ast.Call) and isinstance(node.func, ast.Attribute):
                    called.add(node.func.attr)
        self.assertEqual(methods & values, set())
        self.assertEqual(called - methods - set(METHODS), set())
        for kind in (str, int, list, tuple, dict, set, bytes):
            self.assertEqual((values | methods - {"__init__"}) & set(dir(kind)), set())

    def test_the_top_of_a_module_and_a_class(self):
        for path in FILES:
            body = ast.parse(path.read_text()).body
            self.assertIsInstance(body[0].value.value, str)
            bound = []
            for node in body[1:]:
                self.assertIsInstance(node, (ast.ImportFrom, ast.FunctionDef, ast.ClassDef, ast.Assign))
                if isinstance(node, ast.Assign):
                    self.assertTrue(is_plain(node.value), node.lineno)
                    bound.append(node.targets[0].id)
                if isinstance(node, (ast.FunctionDef, ast.ClassDef)):
                    bound.append(node.name)
                if isinstance(node, ast.ClassDef):
                    self.assertEqual((node.bases, node.keywords), ([], []))
                    self.assertTrue(all(isinstance(part, ast.FunctionDef) for part in node.body[1:]))
            self.assertEqual(len(bound), len(set(bound)))

    def test_parameters(self):
        for path in FILES:
            for node in walk(path):
                if isinstance(node, ast.FunctionDef):
                    self.assertIsNone(node.returns)
                if isinstance(node, ast.arguments):
                    self.assertEqual((node.vararg, node.kwarg, node.kwonlyargs, node.posonlyargs), (None, None, [], []))
                    self.assertTrue(all(argument.annotation is None for argument in node.args))
                    self.assertTrue(all(is_plain(value) for value in node.defaults))

    def test_names_that_are_not_used(self):
        for path in FILES:
            for node in walk(path):
                for field in ("id", "attr", "arg", "name"):
                    self.assertNotIn(getattr(node, field, None), UNUSED)

    def test_is_stands_beside_none_true_and_false(self):
        for path in FILES:
            for node in walk(path):
                if isinstance(node, ast.Compare) and isinstance(node.ops[0], (ast.Is, ast.IsNot)):
                    self.assertIsInstance(node.comparators[0], ast.Constant)
                    self.assertIn(node.comparators[0].value, (None, True, False))

    def test_keywords(self):
        for path in FILES:
            for node in walk(path):
                for keyword in getattr(node, "keywords", []):
                    self.assertIn(keyword.arg, KEYWORDS.get(called_name(node), []))

    def test_walked_at_once(self):
        for path in FILES:
            for inner, outer in around(path):
                if called_name(inner) in WALKED:
                    on_the_spot = isinstance(outer, (ast.For, ast.comprehension)) and outer.iter is inner
                    self.assertTrue(on_the_spot or called_name(outer) in WALKERS and outer.args[0] is inner)

    def test_sets(self):
        for path in FILES:
            for inner, outer in around(path):
                if called_name(inner) in ("set", "frozenset"):
                    self.assertIn(called_name(outer), ("len", "sorted"))

    def test_python_s_own_are_called(self):
        for path in FILES:
            for inner, outer in around(path):
                if isinstance(inner, ast.Name) and inner.id in BUILTINS:
                    self.assertTrue(isinstance(outer, ast.Call) and outer.func is inner, inner.lineno)

    def test_the_beginning_of_an_object_gives_nothing_back(self):
        for path in FILES:
            for node in walk(path):
                if isinstance(node, ast.FunctionDef) and node.name == "__init__":
                    self.assertEqual([part for part in ast.walk(node) if isinstance(part, ast.Return)], [])


if __name__ == "__main__":
    unittest.main()
