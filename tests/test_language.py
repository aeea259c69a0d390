"""The form of the package's own files: the small part of Python that they keep to."""

import ast
import builtins
import pathlib
import re
import unittest

PACKAGE = pathlib.Path(__file__).resolve().parent.parent / "meetwall"
NODES = """Module Expr ImportFrom alias FunctionDef Lambda ClassDef Assign AugAssign If While For Return Break Continue
Pass Raise Try ExceptHandler Name Constant List Tuple Dict Set BinOp BoolOp UnaryOp Compare IfExp Call Attribute
Subscript Slice ListComp comprehension JoinedStr FormattedValue arguments arg keyword Load Store And Or Not USub UAdd
Invert Add Sub Mult FloorDiv Mod Pow BitAnd BitOr BitXor LShift RShift Eq NotEq Lt LtE Gt GtE Is IsNot In
NotIn""".split()
OWN_NAMES = """len range enumerate zip min max sum abs sorted reversed int str bool list tuple dict set frozenset
isinstance ord repr any all divmod Exception ValueError TypeError KeyError IndexError LookupError ZeroDivisionError
ArithmeticError OverflowError RuntimeError NotImplementedError AttributeError StopIteration""".split()
METHODS = """append clear copy count endswith extend find get index insert isalnum isalpha isdigit islower isspace
isupper items join keys ljust lower lstrip partition pop remove replace reverse rfind rjust rpartition rsplit rstrip
setdefault split splitlines startswith strip update upper values zfill bit_length""".split()
WORDS = """type typing typing_extensions enum Enum IntEnum StrEnum Flag IntFlag Generic Protocol ABC ABCMeta namedtuple
NamedTuple TypedDict TYPE_CHECKING abstractmethod register mro elements open input version_info with_traceback add_note
attrgetter breakpoint builtins compile delattr dir eval exec getattr globals hasattr importlib locals setattr super
vars""".split()
UNWALKED = ("zip", "enumerate", "reversed", "range", "items", "keys", "values")
WALKERS = ("list", "tuple", "dict", "sorted", "sum", "any", "all", "enumerate", "zip", "min", "max", "join")


def called_name(node):
    if isinstance(node, ast.Call) and isinstance(node.func, ast.Name):
        return node.func.id
    if isinstance(node, ast.Call) and isinstance(node.func, ast.Attribute):
        return node.func.attr
    return None


def bound_names(tree):
    found = [node.id for node in ast.walk(tree) if isinstance(node, ast.Name) and isinstance(node.ctx, ast.Store)]
    found += [node.arg for node in ast.walk(tree) if isinstance(node, ast.arg)]
    return found


def is_docstring(tree, node):
    return tree.body and tree.body[0] == node and isinstance(node.value, ast.Constant)


class LanguageTest(unittest.TestCase):
    def setUp(self):
        self.texts = {path.name: path.read_text("utf-8") for path in sorted(PACKAGE.glob("*.py"))}
        self.trees = {name: ast.parse(text) for name, text in self.texts.items()}

    def nodes(self, *kinds):
        for name, tree in self.trees.items():
            for node in ast.walk(tree):
                if isinstance(node, kinds):
                    yield name, node

    def test_files(self):
        for path in PACKAGE.iterdir():
            if path.name != "__pycache__":
                self.assertRegex(path.name, r"^([a-z][a-z0-9_]*|__init__|__main__)\.py$")
        for name, text in self.texts.items():
            lines = text.split("\n")
            self.assertLessEqual(len(lines), 400, name)
            self.assertLessEqual(max(len(line) for line in lines), 120, name)
            self.assertRegex(text, r"^[ -~\n]*$", name)

    def test_words(self):
        for name, text in self.texts.items():
            for word in WORDS:
                self.assertIsNone(re.search(rf"\b{word}\b", text), (name, word))
            self.assertIsNone(re.search("dataclass|overload|contextmanager", text), name)

    def test_statements_and_expressions(self):
        for name, node in self.nodes(ast.AST):
            where = (name, getattr(node, "lineno", None))
            self.assertIn(node.__class__.__name__, NODES, where)
            if isinstance(node, ast.Expr):
                self.assertTrue(isinstance(node.value, ast.Call) or is_docstring(self.trees[name], node), where)
            if isinstance(node, ast.Assign):
                self.assertEqual(len(node.targets), 1, where)
            if isinstance(node, (ast.For, ast.While, ast.Try)):
                self.assertFalse(node.orelse and not isinstance(node, ast.Try), where)
            if isinstance(node, ast.Try):
                self.assertFalse(node.finalbody, where)
            if isinstance(node, ast.ListComp):
                self.assertEqual(len(node.generators), 1, where)
                self.assertLessEqual(len(node.generators[0].ifs), 1, where)
            if isinstance(node, ast.Constant):
                self.assertTrue(node.value is None or isinstance(node.value, (int, str)), where)
                self.assertNotIn("%", str(node.value), where)

    def test_defs(self):
        for name, node in self.nodes(ast.FunctionDef):
            self.assertLessEqual(node.end_lineno - node.lineno + 1, 40, (name, node.name))
            self.assertFalse(node.decorator_list or node.args.vararg or node.args.kwarg or node.args.kwonlyargs)
        for name, node in self.nodes(ast.ClassDef):
            self.assertFalse(node.decorator_list or node.keywords or len(node.bases) > 1, (name, node.name))
            for part in node.body:
                self.assertIsInstance(part, (ast.FunctionDef, ast.Pass), (name, node.name))

    def test_imports(self):
        for name, node in self.nodes(ast.ImportFrom):
            self.assertEqual(node.level, 0, name)
            self.assertTrue(node.module.startswith("meetwall."), name)
            source = self.trees[node.module.split(".")[1] + ".py"]
            defined = [part.name for part in source.body if isinstance(part, (ast.FunctionDef, ast.ClassDef))]
            defined += [part.targets[0].id for part in source.body if isinstance(part, ast.Assign)]
            for alias in node.names:
                self.assertIn(alias.name, defined, name)
                self.assertIsNone(alias.asname, name)

    def test_names(self):
        for name, node in self.nodes(ast.Name):
            if hasattr(builtins, node.id):
                self.assertIn(node.id, OWN_NAMES, (name, node.lineno))
        for name, tree in self.trees.items():
            taken = [part.name for part in ast.walk(tree) if isinstance(part, (ast.ClassDef, ast.alias))]
            for bound in bound_names(tree):
                self.assertFalse(bound.startswith("_") or hasattr(builtins, bound) or bound in taken, (name, bound))
            top = [part.name for part in tree.body if isinstance(part, (ast.FunctionDef, ast.ClassDef))]
            top += [part.targets[0].id for part in tree.body if isinstance(part, ast.Assign)]
            self.assertEqual(len(top), len(set(top)), name)

    def test_methods(self):
        own = [node.name for name, node in self.nodes(ast.FunctionDef)]
        for name, node in self.nodes(ast.Call):
            if isinstance(node.func, ast.Attribute):
                self.assertIn(node.func.attr, METHODS + own, (name, node.lineno))

    def test_no_name_is_a_method_and_a_value(self):
        methods = [part.name for name, node in self.nodes(ast.ClassDef) for part in node.body
                   if isinstance(part, ast.FunctionDef)]
        for name, node in self.nodes(ast.Attribute):
            if isinstance(node.ctx, ast.Store):
                self.assertNotIn(node.attr, methods, (name, node.lineno))
                for kind in (str, int, list, dict, set, bytes, tuple):
                    self.assertFalse(hasattr(kind, node.attr), (name, node.attr))

    def test_no_two_files_draw_from_one_another(self):
        drawn = {name: [] for name in self.trees}
        for name, node in self.nodes(ast.ImportFrom):
            drawn[name] += [node.module.split(".")[1] + ".py"]
        order = []
        while len(order) < len(drawn):
            free = [name for name in drawn if name not in order and set(drawn[name]) <= set(order)]
            self.assertTrue(free, order)
            order += free
        self.assertEqual(drawn["__init__.py"], [])

    def test_imports_are_used(self):
        for name, node in self.nodes(ast.ImportFrom):
            used = [part.id for part in ast.walk(self.trees[name]) if isinstance(part, ast.Name)]
            for alias in node.names:
                self.assertIn(alias.name, used, name)

    def test_sets_are_not_kept(self):
        for name, tree in self.trees.items():
            inside = [node.args[0] for node in ast.walk(tree) if called_name(node) in ("len", "sorted") and node.args]
            for node in ast.walk(tree):
                if called_name(node) in ("set", "frozenset"):
                    self.assertIn(node, inside, (name, node.lineno))

    def test_is_stands_beside_none_and_truths(self):
        for name, node in self.nodes(ast.Compare):
            for sign, right in zip(node.ops, node.comparators, strict=True):
                if isinstance(sign, (ast.Is, ast.IsNot)):
                    self.assertTrue(isinstance(right, ast.Constant) and right.value in (None, True, False), name)

    def test_powers_have_a_written_exponent(self):
        for name, node in self.nodes(ast.BinOp):
            if isinstance(node.op, ast.Pow):
                self.assertIsInstance(node.right, ast.Constant, (name, node.lineno))

    def test_f_strings_hold_plain_names(self):
        for name, node in self.nodes(ast.FormattedValue):
            self.assertIsInstance(node.value, ast.Name, (name, node.lineno))
            self.assertIsNone(node.format_spec, (name, node.lineno))

    def test_dicts_of_a_files_top_are_only_read(self):
        for name, tree in self.trees.items():
            kept = [part.targets[0].id for part in tree.body
                    if isinstance(part, ast.Assign) and isinstance(part.value, (ast.Dict, ast.List))]
            read = [node.value for node in ast.walk(tree) if isinstance(node, (ast.Subscript, ast.Attribute))]
            for node in ast.walk(tree):
                if isinstance(node, ast.Name) and node.id in kept and isinstance(node.ctx, ast.Load):
                    self.assertIn(node, read, (name, node.lineno))

    def test_walked_at_once(self):
        for name, tree in self.trees.items():
            walked = [node.iter for node in ast.walk(tree) if isinstance(node, (ast.For, ast.comprehension))]
            walked += [node.args[0] for node in ast.walk(tree) if called_name(node) in WALKERS and node.args]
            for node in ast.walk(tree):
                if called_name(node) in UNWALKED:
                    self.assertIn(node, walked, (name, node.lineno))


if __name__ == "__main__":
    unittest.main()
