"""The package keeps to the small part of Python that ../shared/LANGUAGE.md tells, as far as its syntax shows."""

import ast
import builtins
import re
import unittest
from pathlib import Path

PACKAGE = Path(__file__).resolve().parent.parent / "smallertrades"

NAMES = """len range enumerate zip min max sum abs sorted reversed int str bool list tuple dict set frozenset
    isinstance ord repr any all divmod Exception ValueError TypeError KeyError IndexError LookupError
    ZeroDivisionError ArithmeticError OverflowError RuntimeError NotImplementedError AttributeError
    StopIteration""".split()

METHODS = """append clear copy count endswith extend find get index insert isalnum isalpha isdigit islower isspace
    isupper items join keys ljust lower lstrip partition pop remove replace reverse rfind rjust rpartition rsplit
    rstrip setdefault split splitlines startswith strip update upper values zfill bit_length""".split()

NODES = (ast.Module, ast.Expr, ast.Constant, ast.ImportFrom, ast.alias, ast.FunctionDef, ast.arguments, ast.arg,
         ast.ClassDef, ast.Assign, ast.AugAssign, ast.If, ast.While, ast.For, ast.Return, ast.Break, ast.Continue,
         ast.Pass, ast.Raise, ast.Try, ast.ExceptHandler, ast.Name, ast.Attribute, ast.Subscript, ast.Slice, ast.Call,
         ast.keyword, ast.List, ast.Tuple, ast.Dict, ast.ListComp, ast.comprehension, ast.Lambda, ast.IfExp,
         ast.BinOp, ast.UnaryOp, ast.BoolOp, ast.Compare, ast.expr_context, ast.operator, ast.unaryop, ast.boolop,
         ast.cmpop, ast.JoinedStr, ast.FormattedValue)

WORDS = r"\b(type|typing|typing_extensions|enum|Enum|IntEnum|StrEnum|Flag|IntFlag|Generic|Protocol|ABC|ABCMeta|" \
        r"namedtuple|NamedTuple|TypedDict|TYPE_CHECKING|abstractmethod)\b|dataclass|overload|contextmanager"

UNUSED = """register mro elements open input version_info with_traceback add_note attrgetter breakpoint builtins compile
    copyright credits delattr dir eval exec exit gc getattr globals hasattr help id importlib license locals
    methodcaller os quit setattr super type vars sys""".split()


class LanguageTest(unittest.TestCase):
    def setUp(self):
        self.texts = {path.name: path.read_text(encoding="utf-8") for path in sorted(PACKAGE.glob("*.py"))}
        self.trees = {name: ast.parse(text) for name, text in self.texts.items()}

    def nodes(self, *kinds):
        for name, tree in self.trees.items():
            for node in ast.walk(tree):
                if isinstance(node, kinds):
                    yield name, node

    def test_the_package_holds_its_files_alone(self):
        for path in PACKAGE.iterdir():
            if path.name != "__pycache__":
                self.assertRegex(path.name, r"^(__init__|[a-z][a-z0-9_]*)\.py$")

    def test_signs_words_and_sizes(self):
        for name, text in self.texts.items():
            self.assertRegex(text, r"\A[ -~\n]*\Z", name)
            self.assertIsNone(re.search(WORDS, text), name)
            rows = text.splitlines()
            self.assertLessEqual(len(rows), 399, name)
            self.assertLessEqual(max(map(len, rows)), 120, name)
        for name, node in self.nodes(ast.FunctionDef):
            self.assertLessEqual(node.end_lineno - node.lineno + 1, 40, node.name)

    def test_statements_and_expressions(self):
        for name, node in self.nodes(ast.AST):
            self.assertIsInstance(node, NODES, name)
            self.assertNotIsInstance(node, (ast.Div, ast.MatMult), name)
            self.assertFalse(getattr(node, "decorator_list", []), name)
            self.assertFalse(isinstance(node, (ast.For, ast.While)) and node.orelse, name)
            self.assertFalse(isinstance(node, ast.Assign) and len(node.targets) > 1, name)
            self.assertFalse(isinstance(node, ast.ListComp) and len(node.generators) > 1, name)
            if isinstance(node, ast.Constant):
                self.assertIn(type(node.value), (int, str, bool, type(None)), name)

    def test_names(self):
        own = set()
        for name, node in self.nodes(ast.FunctionDef, ast.ClassDef):
            own.add(node.name)
            if node.name != "__init__":
                self.assertNotIn(node.name, dir(builtins))
                self.assertRegex(node.name, r"^[A-Za-z]")
        for name, node in self.nodes(ast.Name, ast.arg):
            word = node.id if isinstance(node, ast.Name) else node.arg
            self.assertRegex(word, r"^[A-Za-z]\w*$", name)
            self.assertNotIn(word, UNUSED, name)
            bound = isinstance(node, ast.arg) or isinstance(node.ctx, ast.Store)
            if word in dir(builtins):
                self.assertTrue(word in NAMES and not bound, f"{word} in {name}")
        for name, node in self.nodes(ast.Call):
            if isinstance(node.func, ast.Attribute):
                self.assertIn(node.func.attr, own | set(METHODS), name)

    def test_imports_are_the_packages_own_from_where_a_name_is_defined(self):
        for name, node in self.nodes(ast.ImportFrom):
            self.assertEqual(node.level, 0, name)
            package, dot, source = node.module.partition(".")
            self.assertEqual(package, "smallertrades", name)
            defined = {top.name for top in self.trees[source + ".py"].body
                       if isinstance(top, (ast.FunctionDef, ast.ClassDef))}
            self.assertLessEqual({alias.name for alias in node.names}, defined, name)

    def test_methods_and_values_of_objects_have_names_of_their_own(self):
        methods, values = set(), set()
        for name, node in self.nodes(ast.ClassDef):
            methods |= {top.name for top in node.body if isinstance(top, ast.FunctionDef)}
        for name, node in self.nodes(ast.Attribute):
            if isinstance(node.ctx, ast.Store):
                values.add(node.attr)
        self.assertFalse(methods & values)
        for kind in (str, int, list, dict, set, bytes):
            self.assertFalse(((methods | values) - {"__init__"}) & set(dir(kind)))
