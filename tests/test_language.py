"""The package's files held against the rules of the language that can be seen in their form."""

import ast
import builtins
import pathlib
import re
import unittest

PACKAGE = pathlib.Path(__file__).resolve().parent.parent / "sessiontree"

NODES = """
Module Import ImportFrom alias FunctionDef arguments arg ClassDef Assign AugAssign If While For Return Break Continue
Pass Raise Try ExceptHandler Expr Name Load Store Constant List Tuple Dict BinOp UnaryOp BoolOp Compare IfExp Call
Attribute Subscript Slice ListComp comprehension JoinedStr FormattedValue Lambda keyword Add Sub Mult FloorDiv Mod Pow
BitAnd BitOr BitXor LShift RShift USub UAdd Invert Not And Or Eq NotEq Lt LtE Gt GtE Is IsNot In NotIn
""".split()

OWN_NAMES = """
len range enumerate zip min max sum abs sorted reversed int str bool list tuple dict set frozenset isinstance ord repr
any all divmod Exception ValueError TypeError KeyError IndexError LookupError ZeroDivisionError ArithmeticError
OverflowError RuntimeError NotImplementedError AttributeError StopIteration
""".split()

METHODS = """
append clear copy count endswith extend find get index insert isalnum isalpha isdigit islower isspace isupper items join
keys ljust lower lstrip partition pop remove replace reverse rfind rjust rpartition rsplit rstrip setdefault split
splitlines startswith strip update upper values zfill bit_length
""".split()

WORDS_LEFT_OUT = re.compile(r"""\b(type|typing|typing_extensions|enum|Enum|IntEnum|StrEnum|Flag|IntFlag|Generic|Protocol
|ABC|ABCMeta|namedtuple|NamedTuple|TypedDict|TYPE_CHECKING|abstractmethod)\b|dataclass|overload|contextmanager""", re.X)


def files():
    return sorted(PACKAGE.glob("*.py"))


def nodes_of(path):
    return list(ast.walk(ast.parse(path.read_text(encoding="ascii"))))


class Language(unittest.TestCase):
    def test_nothing_else_lies_in_the_package(self):
        others = [path.name for path in PACKAGE.iterdir() if path.suffix != ".py" and path.name != "__pycache__"]
        self.assertEqual(others, [])
        for path in files():
            self.assertRegex(path.stem, r"\A(__init__|[a-z][a-z0-9_]*)\Z")
            self.assertFalse(path.stem != "__init__" and path.stem in vars(builtins), path.name)

    def test_signs_and_sizes(self):
        for path in files():
            text = path.read_text(encoding="ascii")
            self.assertRegex(text, r"\A[ -~\n]*\Z", path.name)
            self.assertLessEqual(len(text.splitlines()), 400, path.name)
            self.assertLessEqual(max(len(line) for line in text.splitlines()), 120, path.name)
            self.assertIsNone(WORDS_LEFT_OUT.search(text), path.name)

    def test_kinds_of_statements_and_expressions(self):
        for path in files():
            for node in nodes_of(path):
                self.assertIn(type(node).__name__, NODES, path.name)
                if isinstance(node, (ast.For, ast.While)):
                    self.assertEqual(node.orelse, [], path.name)
                if isinstance(node, ast.Assign):
                    self.assertEqual(len(node.targets), 1, path.name)
                if isinstance(node, ast.Constant):
                    self.assertIn(type(node.value), (int, str, bool, type(None)), path.name)
                if isinstance(node, (ast.FunctionDef, ast.ClassDef)):
                    self.assertEqual(node.decorator_list, [], node.name)

    def test_functions(self):
        for path in files():
            for node in nodes_of(path):
                if isinstance(node, ast.FunctionDef):
                    self.assertLessEqual(node.end_lineno - node.lineno + 1, 40, node.name)
                    given = node.args
                    self.assertEqual((given.vararg, given.kwarg), (None, None), node.name)
                    self.assertEqual(given.kwonlyargs + given.posonlyargs, [], node.name)

    def test_names(self):
        for path in files():
            nodes = nodes_of(path)
            bound = [node.id for node in nodes if isinstance(node, ast.Name) and isinstance(node.ctx, ast.Store)]
            bound += [node.arg for node in nodes if isinstance(node, ast.arg)]
            bound += [node.name for node in nodes if isinstance(node, (ast.FunctionDef, ast.ClassDef))]
            for name in bound:
                self.assertFalse(name in vars(builtins), f"{path.name}: {name}")
                self.assertTrue(name == "__init__" or not name.startswith("_"), f"{path.name}: {name}")
            for node in nodes:
                if isinstance(node, ast.Name) and node.id in vars(builtins):
                    self.assertIn(node.id, OWN_NAMES, path.name)

    def test_methods(self):
        own = [node.name for path in files() for node in nodes_of(path) if isinstance(node, ast.FunctionDef)]
        for path in files():
            for node in nodes_of(path):
                if isinstance(node, ast.Call) and isinstance(node.func, ast.Attribute):
                    self.assertIn(node.func.attr, METHODS + own, path.name)

    def test_imports(self):
        defined = {path.stem: ast.parse(path.read_text(encoding="ascii")).body for path in files()}
        for path in files():
            for node in nodes_of(path):
                self.assertNotIsInstance(node, ast.Import, path.name)
                if isinstance(node, ast.ImportFrom):
                    self.assertEqual(node.level, 0, path.name)
                    package, module = node.module.split(".")
                    self.assertEqual(package, "sessiontree")
                    names = [one.name for one in defined[module] if isinstance(one, (ast.FunctionDef, ast.ClassDef))]
                    names += [one.targets[0].id for one in defined[module] if isinstance(one, ast.Assign)]
                    self.assertLessEqual({one.name for one in node.names}, set(names), path.name)


if __name__ == "__main__":
    unittest.main()
