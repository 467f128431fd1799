"""The form of the package's files, as far as it can be read off them."""

import ast
import builtins
import pathlib
import re
import unittest

PACKAGE = pathlib.Path(__file__).resolve().parent.parent / "swaprest"

OWN_OF_PYTHON = set(
    "len range enumerate zip min max sum abs sorted reversed int str bool bytes list tuple dict set frozenset isinstance"
    " ord repr any all divmod Exception ValueError TypeError KeyError IndexError LookupError ZeroDivisionError"
    " ArithmeticError OverflowError RuntimeError NotImplementedError AttributeError StopIteration True False None".split()
)

NODES = set(
    "Module FunctionDef ClassDef ImportFrom alias arguments arg Assign AugAssign If While For Return Break Continue Pass"
    " Raise Try ExceptHandler Expr Assert Delete Name Load Store Del Attribute Subscript Slice Constant JoinedStr"
    " FormattedValue Call keyword List Tuple Dict Set ListComp DictComp SetComp comprehension Lambda IfExp BinOp UnaryOp"
    " BoolOp Compare And Or Not USub Add Sub Mult FloorDiv Mod BitAnd BitOr BitXor LShift RShift Eq NotEq Lt LtE Gt GtE"
    " Is IsNot In NotIn".split()
)

WORDS = re.compile(
    r"\b(type|typing|typing_extensions|enum|Enum|IntEnum|StrEnum|Flag|IntFlag|Generic|Protocol|ABC|ABCMeta|namedtuple"
    r"|NamedTuple|TypedDict|TYPE_CHECKING|abstractmethod)\b|dataclass|overload|contextmanager"
)

METHODS = set(
    "append clear copy count endswith extend find get index insert isalnum isalpha isdigit islower isspace isupper items"
    " join keys ljust lower lstrip partition pop remove replace reverse rfind rjust rpartition rsplit rstrip setdefault"
    " split splitlines startswith strip update upper values zfill bit_length add discard sort".split()
)

TOP = (ast.FunctionDef, ast.ClassDef, ast.ImportFrom, ast.Assign)


def files():
    """The package's files with their trees."""
    return [(path, ast.parse(path.read_text())) for path in sorted(PACKAGE.glob("*.py"))]


def defined(tree):
    """The names that a file gives at its top itself."""
    names = [one.name for one in tree.body if isinstance(one, (ast.FunctionDef, ast.ClassDef))]
    return names + [target.id for one in tree.body if isinstance(one, ast.Assign) for target in one.targets]


def drawn(tree):
    """The files from which a file draws, with the names."""
    return [(one.module, name.name) for one in tree.body if isinstance(one, ast.ImportFrom) for name in one.names]


def bound(tree):
    """The parameters and locals of all defs of a file."""
    names = [one.arg for one in ast.walk(tree) if isinstance(one, ast.arg)]
    for one in ast.walk(tree):
        if isinstance(one, ast.FunctionDef):
            names += [n.id for n in ast.walk(one) if isinstance(n, ast.Name) and not isinstance(n.ctx, ast.Load)]
    return names


class Form(unittest.TestCase):
    def test_nothing_else_lies_there(self):
        others = [one.name for one in PACKAGE.iterdir() if one.name != "__pycache__" and one.suffix != ".py"]
        self.assertEqual(others, [])
        self.assertTrue((PACKAGE / "__init__.py").exists())

    def test_sizes_and_signs(self):
        for path, tree in files():
            lines = path.read_text().split("\n")
            self.assertLessEqual(len(lines), 400, path)
            self.assertLessEqual(max(len(line) for line in lines), 120, path)
            self.assertTrue(all(sign == "\n" or " " <= sign <= "~" for sign in path.read_text()), path)
            for one in ast.walk(tree):
                if isinstance(one, ast.FunctionDef):
                    self.assertLessEqual(one.end_lineno - one.lineno + 1, 40, one.name)

    def test_words_and_statements(self):
        for path, tree in files():
            self.assertIsNone(WORDS.search(path.read_text()), path)
            self.assertEqual({one.__class__.__name__ for one in ast.walk(tree)} - NODES, set(), path)
            for one in tree.body[1:]:
                self.assertIsInstance(one, TOP, path)
            self.assertIsNotNone(ast.get_docstring(tree), path)

    def test_names(self):
        for path, tree in files():
            taken = {name for _, name in drawn(tree)} | {one.name for one in tree.body if isinstance(one, ast.ClassDef)}
            for name in bound(tree):
                self.assertNotIn(name, taken | set(dir(builtins)), path)
                self.assertFalse(name.startswith("_"), (path, name))
            tops = defined(tree) + [name for _, name in drawn(tree)]
            self.assertEqual(len(tops), len(set(tops)), path)
            used = {one.id for one in ast.walk(tree) if isinstance(one, ast.Name)}
            self.assertEqual({name for _, name in drawn(tree)} - used, set(), path)
            for one in ast.walk(tree):
                if isinstance(one, ast.Name) and one.id in dir(builtins):
                    self.assertIn(one.id, OWN_OF_PYTHON, path)

    def test_methods_and_values(self):
        trees = [tree for _, tree in files()]
        classes = [one for tree in trees for one in tree.body if isinstance(one, ast.ClassDef)]
        methods = {one.name for each in classes for one in each.body if isinstance(one, ast.FunctionDef)}
        asked = [one for tree in trees for one in ast.walk(tree) if isinstance(one, ast.Attribute)]
        values = {one.attr for one in asked if isinstance(one.ctx, ast.Store)}
        self.assertEqual(methods & values, set())
        called = {id(one.func) for tree in trees for one in ast.walk(tree) if isinstance(one, ast.Call)}
        for one in asked:
            self.assertIn(one.attr, METHODS | methods if id(one) in called else values)

    def test_names_are_drawn_from_where_they_are_defined(self):
        trees = {"swaprest." + path.stem: tree for path, tree in files()}
        for path, tree in files():
            for module, name in drawn(tree):
                self.assertIn(name, defined(trees[module]), path)

    def test_no_two_files_draw_from_one_another(self):
        left = {"swaprest." + path.stem: {module for module, _ in drawn(tree)} for path, tree in files()}
        while left:
            free = [name for name, needs in left.items() if not needs & set(left)]
            self.assertTrue(free, left)
            left = {name: needs for name, needs in left.items() if name not in free}


if __name__ == "__main__":
    unittest.main()
