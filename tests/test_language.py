"""The package keeps to its part of Python: the rules that a look at the code can tell."""

import ast
import builtins
import pathlib
import re
import unittest

import paperspool

FOLDER = pathlib.Path(paperspool.__file__).parent
FILES = sorted(FOLDER.glob("*.py"))

NODES = (
    ast.Module, ast.FunctionDef, ast.ClassDef, ast.arguments, ast.arg, ast.Return, ast.Assign, ast.AugAssign,
    ast.If, ast.While, ast.For, ast.Break, ast.Continue, ast.Pass, ast.Raise, ast.Try, ast.ExceptHandler,
    ast.Expr, ast.ImportFrom, ast.alias, ast.Constant, ast.List, ast.Tuple, ast.Dict, ast.Name, ast.Attribute,
    ast.Subscript, ast.Slice, ast.Call, ast.keyword, ast.BinOp, ast.UnaryOp, ast.BoolOp, ast.Compare, ast.IfExp,
    ast.Lambda, ast.ListComp, ast.comprehension, ast.JoinedStr, ast.FormattedValue,
    ast.expr_context, ast.operator, ast.unaryop, ast.boolop, ast.cmpop,
)
BARRED_NODES = (ast.Div, ast.MatMult)
BUILTINS = set(
    "len range enumerate zip min max sum abs sorted reversed int str bool list tuple dict set frozenset isinstance"
    " ord repr any all divmod Exception ValueError TypeError KeyError IndexError LookupError ZeroDivisionError"
    " ArithmeticError OverflowError RuntimeError NotImplementedError AttributeError StopIteration".split()
)
METHODS = set(
    "append clear copy count endswith extend find get index insert isalnum isalpha isdigit islower isspace isupper"
    " items join keys ljust lower lstrip partition pop remove replace reverse rfind rjust rpartition rsplit rstrip"
    " setdefault split splitlines startswith strip update upper values zfill bit_length".split()
)
BARRED_NAMES = set("register mro elements open input version_info with_traceback add_note".split())
BARRED_WORDS = re.compile(
    r"\b(type|typing|typing_extensions|enum|Enum|IntEnum|StrEnum|Flag|IntFlag|Generic|Protocol|ABC|ABCMeta"
    r"|namedtuple|NamedTuple|TypedDict|TYPE_CHECKING|abstractmethod)\b|dataclass|overload|contextmanager"
)
DUNDERS = set("__init__ __eq__ __repr__ __str__ __len__".split())
PYTHONS_OWN = set()
for value in ("", 0, [], (), {}, set(), b""):
    PYTHONS_OWN.update(dir(value))


def tree_of(path):
    return ast.parse(path.read_text())


def names_bound_at_top(path):
    found = []
    for node in tree_of(path).body:
        if isinstance(node, (ast.FunctionDef, ast.ClassDef)):
            found.append(node.name)
        elif isinstance(node, ast.Assign):
            found.extend(target.id for target in node.targets)
    return found


def locals_of(tree):
    names = [node.arg for node in ast.walk(tree) if isinstance(node, ast.arg)]
    names += [node.id for node in ast.walk(tree) if isinstance(node, ast.Name) and isinstance(node.ctx, ast.Store)]
    return names


def attributes_stored(tree):
    return [node.attr for node in ast.walk(tree) if isinstance(node, ast.Attribute) and isinstance(node.ctx, ast.Store)]


def methods_of(tree):
    return [part.name for node in ast.walk(tree) if isinstance(node, ast.ClassDef)
            for part in node.body if isinstance(part, ast.FunctionDef)]


class Language(unittest.TestCase):
    def each(self):
        for path in FILES:
            yield path.name, tree_of(path)

    def test_the_folder(self):
        others = [path.name for path in FOLDER.iterdir() if path.suffix != ".py" and path.name != "__pycache__"]
        self.assertEqual(others, [])
        for path in FILES:
            self.assertRegex(path.stem, r"^(__init__|[a-z][a-z0-9_]*)$")
            self.assertNotIn(path.stem, dir(builtins))

    def test_signs_and_sizes(self):
        for path in FILES:
            text = path.read_text()
            self.assertRegex(text, r"\A[ -~\n]*\Z", path.name)
            self.assertLessEqual(len(text.splitlines()), 400, path.name)
            self.assertLessEqual(max(len(row) for row in text.splitlines()), 120, path.name)
            self.assertIsNone(BARRED_WORDS.search(text), path.name)
        for name, tree in self.each():
            for node in ast.walk(tree):
                if isinstance(node, ast.FunctionDef):
                    self.assertLessEqual(node.end_lineno - node.lineno + 1, 40, (name, node.name))

    def test_nodes(self):
        for name, tree in self.each():
            for node in [part for row in tree.body[1:] for part in ast.walk(row)]:
                where = (name, getattr(node, "lineno", 0), type(node).__name__)
                self.assertIsInstance(node, NODES, where)
                self.assertNotIsInstance(node, BARRED_NODES, where)
                self.check_node(node, where)

    def check_node(self, node, where):
        if isinstance(node, ast.Expr):
            self.assertIsInstance(node.value, ast.Call, where)
        if isinstance(node, ast.Assign):
            self.assertEqual(len(node.targets), 1, where)
        if isinstance(node, (ast.For, ast.While)):
            self.assertEqual(node.orelse, [], where)
        if isinstance(node, ast.FormattedValue):
            self.assertIsInstance(node.value, ast.Name, where)
        if isinstance(node, ast.ListComp):
            self.assertEqual(len(node.generators), 1, where)
            self.assertLessEqual(len(node.generators[0].ifs), 1, where)
        if isinstance(node, (ast.FunctionDef, ast.ClassDef)):
            self.assertEqual(node.decorator_list, [], where)
        if isinstance(node, ast.arguments):
            self.assertEqual((node.vararg, node.kwarg, node.kwonlyargs, node.posonlyargs), (None, None, [], []), where)
        if isinstance(node, ast.Constant):
            self.assertIn(type(node.value), (int, str, bool, type(None)), where)
        if isinstance(node, ast.Compare):
            for sign in node.ops:
                self.assertNotIsInstance(sign, (ast.Is, ast.IsNot), where)

    def test_the_top_of_a_file(self):
        for name, tree in self.each():
            self.assertIsNotNone(ast.get_docstring(tree), name)
            for node in tree.body[1:]:
                self.assertIsInstance(node, (ast.ImportFrom, ast.FunctionDef, ast.ClassDef, ast.Assign), name)
        for path in FILES:
            bound = names_bound_at_top(path)
            self.assertEqual(len(bound), len(set(bound)), path.name)

    def test_imports(self):
        drawn = {}
        for name, tree in self.each():
            drawn[name] = []
            for node in ast.walk(tree):
                if isinstance(node, ast.ImportFrom):
                    self.assertRegex(node.module, r"^paperspool\.[a-z]+$", name)
                    source = node.module.split(".")[1] + ".py"
                    drawn[name].append(source)
                    for alias in node.names:
                        self.assertIn(alias.name, names_bound_at_top(FOLDER / source), name)
        while drawn:
            ready = [name for name in drawn if not any(source in drawn for source in drawn[name])]
            self.assertTrue(ready, f"files draw from one another: {sorted(drawn)}")
            for name in ready:
                drawn.pop(name)

    def test_every_import_is_used(self):
        for name, tree in self.each():
            used = [node.id for node in ast.walk(tree) if isinstance(node, ast.Name)]
            for node in tree.body:
                if isinstance(node, ast.ImportFrom):
                    for alias in node.names:
                        self.assertIn(alias.name, used, name)

    def test_names(self):
        for name, tree in self.each():
            taken = [alias.name for node in tree.body if isinstance(node, ast.ImportFrom) for alias in node.names]
            taken += [node.name for node in tree.body if isinstance(node, ast.ClassDef)]
            for local in locals_of(tree) + attributes_stored(tree):
                self.assertFalse(local.startswith("_"), (name, local))
                self.assertNotIn(local, BARRED_NAMES, name)
            for local in locals_of(tree):
                self.assertNotIn(local, dir(builtins), name)
                self.assertNotIn(local, taken, name)
            for node in ast.walk(tree):
                if isinstance(node, ast.Name) and node.id in dir(builtins):
                    self.assertIn(node.id, BUILTINS, (name, node.lineno))
                if isinstance(node, ast.FunctionDef):
                    self.assertTrue(not node.name.startswith("_") or node.name in DUNDERS, (name, node.name))
                    self.assertNotIn(node.name, BARRED_NAMES, name)

    def test_methods_and_values(self):
        methods = set()
        values = set()
        for name, tree in self.each():
            methods.update(methods_of(tree))
            values.update(attributes_stored(tree))
        self.assertEqual(methods & values, set())
        self.assertEqual((methods - DUNDERS) & PYTHONS_OWN, set())
        self.assertEqual(values & PYTHONS_OWN, set())
        for name, tree in self.each():
            for node in ast.walk(tree):
                if isinstance(node, ast.Attribute):
                    self.assertIn(node.attr, methods | values | METHODS, (name, node.lineno))


if __name__ == "__main__":
    unittest.main()
