"""The package's files held against the rules of the language that can be seen in their form."""

import ast
import builtins
import pathlib
import re
import unittest

PACKAGE = pathlib.Path(__file__).resolve().parent.parent / "sessiontree"

NODES = """
Module Import ImportFrom alias FunctionDef arguments arg ClassDef Assign AugAssign If While For Return Break Continue
Pass Raise Try ExceptHandler Expr Name Load Store Constant List Tuple Dict BinOp UnaryOp BoolOp Compare IfExp Call
Attribute Subscript Slice ListComp comprehension JoinedStr FormattedValue Lambda keyword Add Sub Mult FloorDiv Mod Pow
BitAnd BitOr BitXor LShift RShift USub UAdd Invert Not And Or Eq NotEq Lt LtE Gt GtE Is IsNot In NotIn
""".split()

OWN_NAMES = """
len range enumerate zip min max sum abs sorted reversed int str bool list tuple dict set frozenset isinstance ord repr
any all divmod Exception ValueError TypeError KeyError IndexError LookupError ZeroDivisionError ArithmeticError
OverflowError RuntimeError NotImplementedError AttributeError StopIteration
""".split()

METHODS = """
append clear copy count endswith extend find get index insert isalnum isalpha isdigit islower isspace isupper items join
keys ljust lower lstrip partition pop remove replace reverse rfind rjust rpartition rsplit rstrip setdefault split
splitlines startswith strip update upper values zfill bit_length
""".split()

WORDS_LEFT_OUT = re.compile(r"""\b(type|typing|typing_extensions|enum|Enum|IntEnum|StrEnum|Flag|IntFlag|Generic|Protocol
|ABC|ABCMeta|namedtuple|NamedTuple|TypedDict|TYPE_CHECKING|abstractmethod)\b|dataclass|overload|contextmanager""", re.X)

WORDS_NOT_USED = """
register mro elements open input version_info with_traceback add_note attrgetter breakpoint builtins compile copyright
credits delattr dir eval exec exit gc getattr globals hasattr help id importlib license locals methodcaller os quit setattr
super sys vars format format_map args encode sort
""".split()

# What each may be walked by on the spot, where it isn't walked by a loop or a comprehension.
WALKED = ["enumerate", "zip", "reversed", "range", "items", "keys", "values"]
WALKERS = ["list", "tuple", "dict", "sorted", "sum", "any", "all", "enumerate", "zip", "min", "max"]


def files():
    return sorted(PACKAGE.glob("*.py"))


def nodes_of(path):
    return list(ast.walk(ast.parse(path.read_text(encoding="ascii"))))


def name_called(node):
    """The name of what a call calls, the method's where it is one."""
    return node.func.attr if isinstance(node.func, ast.Attribute) else node.func.id


def is_plain(value, functions, inner=()):
    """Whether a file's top may give such a value to a name; inner are the kinds that may not stand within it."""
    if isinstance(value, inner):
        return False
    if isinstance(value, (ast.List, ast.Tuple)):
        return all(is_plain(one, functions, (ast.List, ast.Dict)) for one in value.elts)
    if isinstance(value, ast.Dict):
        return all(is_plain(one, functions, (ast.List, ast.Dict)) for one in value.keys + value.values)
    if isinstance(value, ast.UnaryOp):
        return isinstance(value.op, ast.USub) and isinstance(value.operand, ast.Constant)
    return isinstance(value, ast.Constant) or (isinstance(value, ast.Name) and value.id in functions)


class Language(unittest.TestCase):
    def test_nothing_else_lies_in_the_package(self):
        others = [path.name for path in PACKAGE.iterdir() if path.suffix != ".py" and path.name != "__pycache__"]
        self.assertEqual(others, [])
        for path in files():
            self.assertRegex(path.stem, r"\A(__init__|[a-z][a-z0-9_]*)\Z")
            self.assertFalse(path.stem != "__init__" and path.stem in vars(builtins), path.name)

    def test_signs_and_sizes(self):
        for path in files():
            text = path.read_text(encoding="ascii")
            self.assertRegex(text, r"\A[ -~\n]*\Z", path.name)
            self.assertLessEqual(len(text.splitlines()), 400, path.name)
            self.assertLessEqual(max(len(line) for line in text.splitlines()), 120, path.name)
            self.assertIsNone(WORDS_LEFT_OUT.search(text), path.name)

    def test_kinds_of_statements_and_expressions(self):
        for path in files():
            for node in nodes_of(path):
                self.assertIn(type(node).__name__, NODES, path.name)
                if isinstance(node, (ast.For, ast.While)):
                    self.assertEqual(node.orelse, [], path.name)
                if isinstance(node, ast.Assign):
                    self.assertEqual(len(node.targets), 1, path.name)
                if isinstance(node, ast.Constant):
                    self.assertIn(type(node.value), (int, str, bool, type(None)), path.name)
                if isinstance(node, (ast.FunctionDef, ast.ClassDef)):
                    self.assertEqual(node.decorator_list, [], node.name)

    def test_functions(self):
        for path in files():
            for node in nodes_of(path):
                if isinstance(node, ast.FunctionDef):
                    self.assertLessEqual(node.end_lineno - node.lineno + 1, 40, node.name)
                    given = node.args
                    self.assertEqual((given.vararg, given.kwarg), (None, None), node.name)
                    self.assertEqual(given.kwonlyargs + given.posonlyargs, [], node.name)

    def test_names(self):
        for path in files():
            nodes = nodes_of(path)
            bound = [node.id for node in nodes if isinstance(node, ast.Name) and isinstance(node.ctx, ast.Store)]
            bound += [node.arg for node in nodes if isinstance(node, ast.arg)]
            bound += [node.name for node in nodes if isinstance(node, (ast.FunctionDef, ast.ClassDef))]
            for name in bound:
                self.assertFalse(name in vars(builtins), f"{path.name}: {name}")
                self.assertTrue(name == "__init__" or not name.startswith("_"), f"{path.name}: {name}")
            for node in nodes:
                if isinstance(node, ast.Name) and node.id in vars(builtins):
                    self.assertIn(node.id, OWN_NAMES, path.name)

    def test_methods(self):
        own = [node.name for path in files() for node in nodes_of(path) if isinstance(node, ast.FunctionDef)]
        for path in files():
            for node in nodes_of(path):
                if isinstance(node, ast.Call) and isinstance(node.func, ast.Attribute):
                    self.assertIn(node.func.attr, METHODS + own, path.name)

    def test_imports(self):
        defined = {path.stem: ast.parse(path.read_text(encoding="ascii")).body for path in files()}
        for path in files():
            for node in nodes_of(path):
                self.assertNotIsInstance(node, ast.Import, path.name)
                if isinstance(node, ast.ImportFrom):
                    self.assertEqual(node.level, 0, path.name)
                    package, module = node.module.split(".")
                    self.assertEqual(package, "sessiontree")
                    names = [one.name for one in defined[module] if isinstance(one, (ast.FunctionDef, ast.ClassDef))]
                    names += [one.targets[0].id for one in defined[module] if isinstance(one, ast.Assign)]
                    self.assertLessEqual({one.name for one in node.names}, set(names), path.name)

    def test_no_file_draws_from_itself_through_others(self):
        drawn = {}
        for path in files():
            drawn[path.stem] = {node.module.split(".")[1] for node in nodes_of(path) if isinstance(node, ast.ImportFrom)}
        while drawn:
            free = [stem for stem, others in drawn.items() if not others & set(drawn)]
            self.assertNotEqual(free, [], drawn)
            for stem in free:
                drawn.pop(stem)

    def test_the_top_of_a_file(self):
        for path in files():
            bound = []
            functions = []
            for place, node in enumerate(ast.parse(path.read_text(encoding="ascii")).body):
                if isinstance(node, ast.Expr):
                    self.assertTrue(place == 0 and isinstance(node.value.value, str), path.name)
                elif isinstance(node, ast.ImportFrom):
                    bound += [one.asname or one.name for one in node.names]
                elif isinstance(node, ast.Assign):
                    self.assertTrue(is_plain(node.value, functions), f"{path.name}: {node.lineno}")
                    bound.append(node.targets[0].id)
                else:
                    self.assertIsInstance(node, (ast.FunctionDef, ast.ClassDef), path.name)
                    functions += [node.name] if isinstance(node, ast.FunctionDef) else []
                    bound.append(node.name)
            self.assertEqual(len(bound), len(set(bound)), path.name)

    def test_locals_are_called_otherwise_than_the_file_s_own(self):
        for path in files():
            top = ast.parse(path.read_text(encoding="ascii")).body
            own = [one.name for node in top if isinstance(node, ast.ImportFrom) for one in node.names]
            own += [node.name for node in top if isinstance(node, (ast.ClassDef, ast.FunctionDef))]
            for node in nodes_of(path):
                if isinstance(node, ast.FunctionDef):
                    inner = list(ast.walk(node))
                    local = [one.id for one in inner if isinstance(one, ast.Name) and isinstance(one.ctx, ast.Store)]
                    local += [one.arg for one in inner if isinstance(one, ast.arg)]
                    self.assertEqual([name for name in local if name in own], [], f"{path.name}: {node.name}")

    def test_methods_and_values_of_objects(self):
        pythons = {name for kind in (str, int, list, dict, set, bytes, tuple) for name in dir(kind)}
        methods, values = set(), set()
        for path in files():
            for node in nodes_of(path):
                if isinstance(node, ast.ClassDef):
                    self.assertEqual([one for one in node.body if not isinstance(one, ast.FunctionDef)], [], node.name)
                    names = [one.name for one in node.body if one.name != "__init__"]
                    self.assertEqual(len(names), len(set(names)), node.name)
                    methods.update(names)
                if isinstance(node, ast.Attribute) and isinstance(node.ctx, ast.Store):
                    self.assertIsInstance(node.value, ast.Name, path.name)
                    values.add(node.attr)
        self.assertEqual((methods | values) & pythons, set())
        self.assertEqual(methods & values, set())

    def test_words_that_are_not_used(self):
        for path in files():
            for node in nodes_of(path):
                name = getattr(node, "id", getattr(node, "attr", getattr(node, "arg", getattr(node, "name", None))))
                self.assertNotIn(name, WORDS_NOT_USED, path.name)

    def test_what_the_package_does_without(self):
        for path in files():
            for node in nodes_of(path):
                self.assertNotIsInstance(node, (ast.Try, ast.Raise, ast.Lambda, ast.Pow), path.name)
                self.assertFalse(isinstance(node, ast.Name) and node.id in ("set", "frozenset"), path.name)
                if isinstance(node, ast.Assign):
                    self.assertNotIsInstance(node.targets[0], (ast.Tuple, ast.List), path.name)
                if isinstance(node, ast.FunctionDef):
                    self.assertIsNone(node.returns, path.name)
                if isinstance(node, ast.arg):
                    self.assertIsNone(node.annotation, path.name)
                if isinstance(node, ast.Constant) and isinstance(node.value, str):
                    self.assertNotIn("%", node.value, path.name)

    def test_is_stands_beside_none_alone(self):
        for path in files():
            for node in nodes_of(path):
                if isinstance(node, ast.Compare) and isinstance(node.ops[0], (ast.Is, ast.IsNot)):
                    self.assertIsNone(node.comparators[0].value, path.name)

    def test_keywords(self):
        for path in files():
            for node in nodes_of(path):
                if isinstance(node, ast.Call) and node.keywords:
                    self.assertIn(name_called(node), ("sum", "enumerate"), path.name)
                    self.assertEqual([one.arg for one in node.keywords], ["start"], path.name)

    def test_walked_at_once(self):
        for path in files():
            nodes = nodes_of(path)
            walked = [node.iter for node in nodes if isinstance(node, (ast.For, ast.comprehension))]
            for node in nodes:
                if isinstance(node, ast.Call) and name_called(node) in WALKERS:
                    walked += node.args
            for node in nodes:
                if isinstance(node, ast.Call) and name_called(node) in WALKED:
                    self.assertIn(node, walked, f"{path.name}: {node.lineno}")


if __name__ == "__main__":
    unittest.main()
