"""The package keeps to the small part of Python it is written in: what of those rules a walk over the tree can see."""

import ast
import builtins
import pathlib
import re
import unittest

PACKAGE = pathlib.Path(__file__).resolve().parent.parent / "turngrid"

NODES = (
    ast.Module, ast.ImportFrom, ast.alias, ast.FunctionDef, ast.arguments, ast.arg, ast.ClassDef,
    ast.Assign, ast.AugAssign, ast.If, ast.While, ast.For, ast.Return, ast.Break, ast.Continue, ast.Pass,
    ast.Raise, ast.Try, ast.ExceptHandler, ast.Expr,
    ast.Constant, ast.List, ast.Tuple, ast.Dict, ast.Name, ast.Attribute, ast.Subscript, ast.Slice, ast.Call,
    ast.keyword, ast.BinOp, ast.UnaryOp, ast.BoolOp, ast.Compare, ast.IfExp, ast.ListComp, ast.comprehension,
    ast.Lambda, ast.JoinedStr, ast.FormattedValue,
    ast.expr_context, ast.operator, ast.unaryop, ast.boolop, ast.cmpop,
)
OWN_NAMES = set(
    "len range enumerate zip min max sum abs sorted reversed int str bool list tuple dict set isinstance ord repr "
    "any all divmod ValueError KeyError IndexError LookupError ZeroDivisionError".split()
)
METHODS = set(
    "append clear copy count endswith extend find get index insert isalnum isalpha isdigit islower isspace isupper "
    "items join keys ljust lower lstrip partition pop remove replace reverse rfind rjust rpartition rsplit rstrip "
    "setdefault split splitlines startswith strip update upper values zfill bit_length".split()
)
PYTHON_METHODS = set(dir(str) + dir(int) + dir(list) + dir(dict) + dir(set) + dir(bytes) + dir(tuple))
WORDS = re.compile(
    r"\b(type|typing|typing_extensions|enum|Enum|IntEnum|StrEnum|Flag|IntFlag|Generic|Protocol|ABC|ABCMeta|"
    r"namedtuple|NamedTuple|TypedDict|TYPE_CHECKING|abstractmethod)\b|dataclass|overload|contextmanager"
)
DUNDERS = ("__init__", "__eq__", "__repr__", "__str__", "__len__")


def bound_names(tree):
    for node in ast.walk(tree):
        if isinstance(node, (ast.FunctionDef, ast.ClassDef)):
            yield node.name
        elif isinstance(node, ast.arg):
            yield node.arg
        elif isinstance(node, ast.Name) and isinstance(node.ctx, ast.Store):
            yield node.id
        elif isinstance(node, ast.ExceptHandler) and node.name:
            yield node.name


class LanguageTest(unittest.TestCase):
    def setUp(self):
        self.files = sorted(path for path in PACKAGE.rglob("*") if path.is_file() and path.suffix != ".pyc")
        self.texts = {path.name: path.read_text(encoding="utf-8") for path in self.files}
        self.trees = {name: ast.parse(text) for name, text in self.texts.items()}

    def nodes(self, *kinds):
        for name, tree in self.trees.items():
            for node in ast.walk(tree):
                if isinstance(node, kinds):
                    yield f"{name}:{getattr(node, 'lineno', 0)}", node

    def test_files(self):
        self.assertIn("__init__.py", self.texts)
        for path in self.files:
            self.assertEqual(path.parent, PACKAGE)
            self.assertRegex(path.name, r"^([a-z][a-z0-9_]*|__init__)\.py$")
            self.assertFalse(path.stem != "__init__" and hasattr(builtins, path.stem), path.name)

    def test_signs_words_and_sizes(self):
        for name, text in self.texts.items():
            self.assertRegex(text, r"\A[ -~\n]*\Z", name)
            self.assertIsNone(WORDS.search(text), name)
            self.assertLessEqual(len(text.splitlines()), 400, name)
            for line in text.splitlines():
                self.assertLessEqual(len(line), 120, name)
        for where, node in self.nodes(ast.FunctionDef):
            self.assertLessEqual(node.end_lineno - node.lineno + 1, 40, where)

    def test_only_the_kinds_of_code_that_are_told(self):
        for where, node in self.nodes(ast.AST):
            self.assertIsInstance(node, NODES, where)
        for where, node in self.nodes(ast.Div, ast.MatMult):
            self.fail(where)
        for where, node in self.nodes(ast.For, ast.While):
            self.assertEqual(node.orelse, [], where)
        for where, node in self.nodes(ast.Try):
            self.assertEqual(node.finalbody, [], where)
        for where, node in self.nodes(ast.Assign):
            self.assertEqual(len(node.targets), 1, where)
        for where, node in self.nodes(ast.Constant):
            self.assertIn(type(node.value), (int, str, bool, type(None)), where)
        for where, node in self.nodes(ast.Expr):
            self.assertIsInstance(node.value, (ast.Call, ast.Constant), where)

    def test_imports_are_the_packages_own(self):
        for where, node in self.nodes(ast.ImportFrom):
            self.assertEqual(node.level, 0, where)
            self.assertRegex(node.module, r"^turngrid\.[a-z_0-9]+$", where)
            source = self.trees[node.module.split(".")[1] + ".py"]
            defined = [part.name for part in source.body if hasattr(part, "name")]
            for alias in node.names:
                self.assertIn(alias.name, defined, where)

    def test_plain_functions_and_classes(self):
        for where, node in self.nodes(ast.FunctionDef, ast.ClassDef):
            self.assertEqual(node.decorator_list, [], where)
        for where, node in self.nodes(ast.arguments):
            self.assertEqual((node.vararg, node.kwarg, node.kwonlyargs, node.posonlyargs), (None, None, [], []), where)
        for where, node in self.nodes(ast.ClassDef):
            self.assertLessEqual(len(node.bases), 1, where)
            for part in node.body:
                self.assertIsInstance(part, (ast.FunctionDef, ast.Pass), where)

    def test_names(self):
        for file, tree in self.trees.items():
            for name in bound_names(tree):
                if name not in DUNDERS:
                    self.assertRegex(name, r"^[A-Za-z][A-Za-z0-9_]*$", file)
                    self.assertFalse(hasattr(builtins, name), (file, name))
        for where, node in self.nodes(ast.Name):
            if hasattr(builtins, node.id):
                self.assertIn(node.id, OWN_NAMES, where)
        for where, node in self.nodes(ast.Attribute):
            if node.attr in PYTHON_METHODS:
                self.assertIn(node.attr, METHODS | set(DUNDERS), where)

    def test_each_name_once_at_a_files_top(self):
        for file, tree in self.trees.items():
            bound = [part.name for part in tree.body if hasattr(part, "name")]
            bound += [alias.name for part in tree.body if isinstance(part, ast.ImportFrom) for alias in part.names]
            bound += [part.targets[0].id for part in tree.body if isinstance(part, ast.Assign)]
            self.assertEqual(len(bound), len(set(bound)), (file, bound))

    def test_no_local_is_called_like_a_name_of_its_files_top(self):
        for file, tree in self.trees.items():
            top = {part.name for part in tree.body if hasattr(part, "name")}
            top |= {alias.name for part in tree.body if isinstance(part, ast.ImportFrom) for alias in part.names}
            for part in ast.walk(tree):
                if isinstance(part, ast.FunctionDef):
                    self.assertEqual((set(bound_names(part)) - {part.name}) & top, set(), (file, part.name))

    def test_no_two_files_draw_from_one_another(self):
        draws = {}
        for file, tree in self.trees.items():
            modules = [part.module for part in tree.body if isinstance(part, ast.ImportFrom)]
            draws[file] = {module.split(".")[1] + ".py" for module in modules}
        while draws:
            done = [file for file in draws if not draws[file] & set(draws)]
            self.assertNotEqual(done, [], draws)
            draws = {file: draws[file] for file in draws if file not in done}

    def test_what_a_loop_walks_is_walked_on_the_spot(self):
        for where, node in self.nodes(ast.Assign):
            if isinstance(node.value, ast.Call) and isinstance(node.value.func, ast.Name):
                self.assertNotIn(node.value.func.id, ("zip", "enumerate", "reversed", "range"), where)

    def test_is_stands_beside_none_and_truths(self):
        for where, node in self.nodes(ast.Compare):
            for sign, right in zip(node.ops, node.comparators):
                if isinstance(sign, (ast.Is, ast.IsNot)):
                    self.assertIsInstance(right, ast.Constant, where)
                    self.assertIn(right.value, (None, True, False), where)

    def test_exponents_are_written_out(self):
        for where, node in self.nodes(ast.BinOp):
            if isinstance(node.op, ast.Pow):
                self.assertIsInstance(node.right, ast.Constant, where)
                self.assertIn(node.right.value, range(65), where)


if __name__ == "__main__":
    unittest.main()
