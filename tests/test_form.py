"""The form of the package's files: a small part of Python, the rules L1 to L28 as far as a reading can see them."""

import ast
import builtins
import pathlib
import re
import unittest

ROOT = pathlib.Path(__file__).resolve().parent.parent
FOLDER = ROOT / "priceboard"
FILES = sorted(FOLDER.rglob("*.py"))

STATEMENTS = (
    ast.Assign, ast.AugAssign, ast.If, ast.While, ast.For, ast.Return, ast.Break, ast.Continue, ast.Pass, ast.Raise,
    ast.Try, ast.Expr, ast.FunctionDef, ast.ClassDef, ast.ImportFrom,
)
FORBIDDEN_EXPRESSIONS = (
    ast.Div, ast.MatMult, ast.SetComp, ast.DictComp, ast.GeneratorExp, ast.NamedExpr, ast.Starred, ast.Await,
    ast.Yield, ast.YieldFrom,
)
OWN_NAMES_OF_PYTHON = set(dir(builtins))
ALLOWED_BUILTINS = set(
    "len range enumerate zip min max sum abs sorted reversed int str bool list tuple dict set frozenset isinstance ord"
    " repr any all divmod Exception ValueError TypeError KeyError IndexError LookupError ZeroDivisionError"
    " ArithmeticError OverflowError RuntimeError NotImplementedError AttributeError StopIteration".split()
)
ALLOWED_METHODS = set(
    "append clear copy count endswith extend find get index insert isalnum isalpha isdigit islower isspace isupper"
    " items join keys ljust lower lstrip partition pop remove replace reverse rfind rjust rpartition rsplit rstrip"
    " setdefault split splitlines startswith strip update upper values zfill bit_length".split()
)
DOUBLE = ("__init__", "__eq__", "__repr__", "__str__", "__len__")
WORDS = re.compile(
    r"\b(type|typing|typing_extensions|enum|Enum|IntEnum|StrEnum|Flag|IntFlag|Generic|Protocol|ABC|ABCMeta|namedtuple"
    r"|NamedTuple|TypedDict|TYPE_CHECKING|abstractmethod)\b|dataclass|overload|contextmanager"
)
UNUSED = ("register", "mro", "elements", "open", "input", "version_info", "with_traceback", "add_note", "format",
          "format_map")


def trees():
    return [(path, ast.parse(path.read_text("utf-8"))) for path in FILES]


def nodes(kind):
    return [(f"{path.name}:{node.lineno}", node) for path, tree in trees() for node in ast.walk(tree)
            if isinstance(node, kind)]


def bound_in(function):
    arguments = [argument.arg for argument in function.args.args]
    names = [node.id for node in ast.walk(function) if isinstance(node, ast.Name) and isinstance(node.ctx, ast.Store)]
    return arguments + names


def is_plain_value(node, functions):
    if isinstance(node, (ast.Tuple, ast.List)):
        return all([is_plain_value(part, functions) for part in node.elts])
    if isinstance(node, ast.Dict):
        return all([is_plain_value(part, functions) for part in node.keys + node.values])
    if isinstance(node, ast.UnaryOp):
        return isinstance(node.op, ast.USub) and is_plain_value(node.operand, functions)
    if isinstance(node, ast.Name):
        return node.id in functions
    return isinstance(node, ast.Constant) and isinstance(node.value, (int, str, type(None)))


class TestForm(unittest.TestCase):
    def test_files(self):
        others = [path for path in FOLDER.rglob("*") if path not in FILES and "__pycache__" not in path.parts]
        self.assertEqual(others, [])
        self.assertIn(FOLDER / "__init__.py", FILES)
        for path in FILES:
            self.assertRegex(path.name, r"\A([a-z][a-z0-9_]*|__init__|__main__)\.py\Z")
            self.assertNotIn(path.stem, OWN_NAMES_OF_PYTHON)

    def test_size_and_signs(self):
        for path in FILES:
            text = path.read_text("utf-8")
            self.assertRegex(text, r"\A[ -~\n]*\Z", path.name)
            self.assertLessEqual(len(text.splitlines()), 400, path.name)
            for number, line in enumerate(text.splitlines(), start=1):
                self.assertLessEqual(len(line), 120, f"{path.name}:{number}")
                self.assertIsNone(WORDS.search(line), f"{path.name}:{number}")
        for where, node in nodes(ast.FunctionDef):
            self.assertLessEqual(node.end_lineno - node.lineno + 1, 40, where)

    def test_imports(self):
        drawn = {}
        for path, tree in trees():
            drawn["priceboard." + path.stem] = []
            for node in ast.walk(tree):
                self.assertNotIsInstance(node, ast.Import, path.name)
                if isinstance(node, ast.ImportFrom):
                    self.assertIn(node, tree.body, path.name)
                    self.assertEqual(node.level, 0, path.name)
                    self.assert_defines(node)
                    drawn["priceboard." + path.stem].append(node.module)
        self.assertEqual(drawn["priceboard.__init__"], [])
        self.assert_no_ring(drawn)

    def assert_defines(self, node):
        self.assertRegex(node.module, r"\Apriceboard\.[a-z_0-9]+\Z")
        tree = ast.parse((ROOT / (node.module.replace(".", "/") + ".py")).read_text("utf-8"))
        defined = [part.name for part in tree.body if isinstance(part, (ast.FunctionDef, ast.ClassDef))]
        defined += [part.targets[0].id for part in tree.body if isinstance(part, ast.Assign)]
        for alias in node.names:
            self.assertIn(alias.name, defined)

    def assert_no_ring(self, drawn):
        left = dict(drawn)
        while left:
            free = [name for name in left if not [other for other in left[name] if other in left]]
            self.assertNotEqual(free, [], left)
            for name in free:
                left.pop(name)

    def test_the_top_of_a_file(self):
        for path, tree in trees():
            self.assertIsNotNone(ast.get_docstring(tree), path.name)
            functions = []
            names = []
            for node in tree.body[1:]:
                self.assertIsInstance(node, (ast.ImportFrom, ast.FunctionDef, ast.ClassDef, ast.Assign), path.name)
                if isinstance(node, ast.Assign):
                    self.assertTrue(is_plain_value(node.value, functions), f"{path.name}:{node.lineno}")
                    names.append(node.targets[0].id)
                elif isinstance(node, ast.ImportFrom):
                    names.extend([alias.asname or alias.name for alias in node.names])
                else:
                    names.append(node.name)
                    functions.append(node.name)
            self.assertEqual(len(names), len(set(names)), path.name)

    def test_statements(self):
        for where, node in nodes(ast.stmt):
            self.assertIsInstance(node, STATEMENTS, where)
            if isinstance(node, ast.Assign):
                self.assertEqual(len(node.targets), 1, where)
            if isinstance(node, (ast.For, ast.While)):
                self.assertEqual(node.orelse, [], where)
            if isinstance(node, ast.Try):
                self.assertEqual(node.finalbody, [], where)
            if isinstance(node, ast.Expr) and node.lineno > 1:
                self.assertIsInstance(node.value, ast.Call, where)

    def test_expressions(self):
        for where, node in nodes((ast.expr,)):
            self.assertNotIsInstance(node, FORBIDDEN_EXPRESSIONS, where)
            if isinstance(node, ast.BinOp):
                self.assertNotIsInstance(node.op, (ast.Div, ast.MatMult, ast.Pow), where)
            if isinstance(node, ast.ListComp):
                self.assertEqual(len(node.generators), 1, where)
                self.assertLessEqual(len(node.generators[0].ifs), 1, where)
            if isinstance(node, ast.Constant):
                self.assertNotIsInstance(node.value, (float, bytes, complex), where)
                self.assertNotIn("%", node.value if isinstance(node.value, str) else "", where)
            if isinstance(node, ast.Compare):
                for operator, right in zip(node.ops, node.comparators):
                    if isinstance(operator, (ast.Is, ast.IsNot)):
                        self.assertIsInstance(right, ast.Constant, where)

    def test_functions(self):
        for where, node in nodes(ast.FunctionDef):
            self.assertEqual(node.decorator_list, [], where)
            self.assertIsNone(node.args.vararg or node.args.kwarg, where)
            self.assertEqual(node.args.kwonlyargs + node.args.posonlyargs, [], where)

    def test_classes(self):
        methods = []
        values = [node.attr for where, node in nodes(ast.Attribute) if isinstance(node.ctx, ast.Store)]
        for where, node in nodes(ast.ClassDef):
            self.assertEqual(node.decorator_list + node.keywords, [], where)
            self.assertLessEqual(len(node.bases), 1, where)
            for part in node.body:
                self.assertIsInstance(part, ast.FunctionDef, where)
            own = [part.name for part in node.body]
            self.assertEqual(len(own), len(set(own)), where)
            methods.extend(own)
        self.assertEqual([name for name in values if name in methods], [])
        kinds = (str, int, list, dict, set, bytes)
        for name in values + methods:
            taken = [kind for kind in kinds if hasattr(kind, name)]
            self.assertTrue(not taken or name in DOUBLE, name)

    def test_names(self):
        for path, tree in trees():
            classes = [node.name for node in tree.body if isinstance(node, ast.ClassDef)]
            drawn = [alias.name for node in tree.body if isinstance(node, ast.ImportFrom) for alias in node.names]
            for node in ast.walk(tree):
                if isinstance(node, ast.FunctionDef):
                    self.assert_plain_name(node.name)
                    for name in bound_in(node):
                        self.assert_plain_name(name)
                        self.assertNotIn(name, classes + drawn, path.name)

    def assert_plain_name(self, name):
        if name not in DOUBLE:
            self.assertRegex(name, r"\A[A-Za-z][A-Za-z0-9_]*\Z")
            self.assertNotIn(name, OWN_NAMES_OF_PYTHON)
            self.assertNotIn(name, UNUSED)

    def test_names_of_pythons_own(self):
        for where, node in nodes(ast.Name):
            if node.id in OWN_NAMES_OF_PYTHON:
                self.assertIn(node.id, ALLOWED_BUILTINS, where)
        for where, node in nodes(ast.Attribute):
            self.assertNotIn(node.attr, UNUSED, where)

    def test_methods_of_pythons_own_values(self):
        own = [part.name for where, node in nodes(ast.ClassDef) for part in node.body]
        for where, node in nodes(ast.Call):
            if isinstance(node.func, ast.Attribute):
                self.assertIn(node.func.attr, ALLOWED_METHODS | set(own), where)


if __name__ == "__main__":
    unittest.main()
