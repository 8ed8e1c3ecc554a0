"""Holds the package's files to the rules of ../shared/LANGUAGE.md that a walk over the code can see."""

import ast
import builtins
import pathlib
import re
import unittest

PACKAGE = pathlib.Path(__file__).resolve().parent.parent / "limb"

NODES = """
Module ImportFrom alias FunctionDef arguments arg ClassDef Assign AugAssign If While For Return Break Continue
Pass Raise Try ExceptHandler Expr Constant Name Load Store Attribute Subscript Slice Call keyword List Tuple Dict
Set Lambda IfExp ListComp comprehension JoinedStr FormattedValue BinOp UnaryOp BoolOp Compare
Add Sub Mult FloorDiv Mod Pow BitAnd BitOr BitXor LShift RShift Invert USub UAdd Not And Or
Eq NotEq Lt LtE Gt GtE Is IsNot In NotIn
""".split()

BUILTINS = """
len range enumerate zip min max sum abs sorted reversed int str bool list tuple dict set isinstance ord repr
any all divmod frozenset Exception ValueError KeyError IndexError LookupError ZeroDivisionError ArithmeticError
OverflowError RuntimeError NotImplementedError AttributeError StopIteration
""".split()

METHODS = """
append clear copy count endswith extend find get index insert isalnum isalpha isdigit islower isspace isupper
items join keys ljust lower lstrip partition pop remove replace reverse rfind rjust rpartition rsplit rstrip
setdefault split splitlines startswith strip update upper values zfill bit_length
""".split()

UNDERSCORED = ["__init__", "__eq__", "__repr__", "__str__", "__len__"]

WORDS = re.compile(
    r"\b(type|typing|typing_extensions|enum|Enum|IntEnum|StrEnum|Flag|IntFlag|Generic|Protocol|ABC|ABCMeta"
    r"|namedtuple|NamedTuple|TypedDict|TYPE_CHECKING|abstractmethod)\b|dataclass|overload|contextmanager"
)

UNUSED = """
register mro elements open input version_info with_traceback add_note attrgetter breakpoint builtins compile
copyright credits delattr dir eval exec exit gc getattr globals hasattr help id importlib license locals
methodcaller os quit setattr super type vars sys format format_map
""".split()


KEYWORDS = {
    "sorted": ["key", "reverse"], "min": ["key", "default"], "max": ["key", "default"], "sum": ["start"],
    "enumerate": ["start"], "zip": ["strict"],
}
WALKED = ["zip", "enumerate", "reversed", "range", "items", "keys", "values"]
WALKERS = ["list", "tuple", "dict", "sorted", "sum", "any", "all", "enumerate", "zip"]


def package_files():
    return sorted(path for path in PACKAGE.rglob("*") if "__pycache__" not in path.parts)


def walk_of(path):
    return list(ast.walk(ast.parse(path.read_text(encoding="ascii"))))


def defs_in(path):
    tree = ast.parse(path.read_text(encoding="ascii"))
    found = [node.name for node in tree.body if isinstance(node, (ast.FunctionDef, ast.ClassDef))]
    for node in tree.body:
        if isinstance(node, ast.Assign):
            found += [target.id for target in node.targets]
    return found


def imports_of(path):
    return [node for node in walk_of(path) if isinstance(node, ast.ImportFrom)]


def drawn_stem(node):
    return node.module.rpartition(".")[2]


def own_methods():
    return [
        node.name for path in package_files() for node in walk_of(path) if isinstance(node, ast.FunctionDef)
    ]


def bound_names(nodes):
    names = [node.arg for node in nodes if isinstance(node, ast.arg)]
    return names + [node.id for node in nodes if isinstance(node, ast.Name) and isinstance(node.ctx, ast.Store)]


def methods_of_classes():
    classes = [node for path in package_files() for node in walk_of(path) if isinstance(node, ast.ClassDef)]
    return [part.name for node in classes for part in node.body if isinstance(part, ast.FunctionDef)]


def stored_values():
    nodes = [node for path in package_files() for node in walk_of(path)]
    return [node.attr for node in nodes if isinstance(node, ast.Attribute) and isinstance(node.ctx, ast.Store)]


def called_name(node):
    return node.func.id if isinstance(node.func, ast.Name) else node.func.attr


def on_each_file(check):
    def run(self):
        for path in package_files():
            with self.subTest(file=path.name):
                check(self, path)
    return run


class TestLanguage(unittest.TestCase):

    def test_there_is_a_package(self):
        self.assertIn(PACKAGE / "__init__.py", package_files())

    @on_each_file
    def test_files(self, path):
        self.assertRegex(path.name, r"^([a-z][a-z0-9_]*|__init__|__main__)\.py$")
        self.assertNotIn(path.stem, dir(builtins))
        self.assertFalse(path.stem.startswith("test"))

    @on_each_file
    def test_signs_and_words(self, path):
        text = path.read_bytes().decode("ascii")
        self.assertRegex(text, r"\A[ -~\n]*\Z")
        self.assertIsNone(WORDS.search(text))

    @on_each_file
    def test_sizes(self, path):
        rows = path.read_text(encoding="ascii").splitlines()
        self.assertLessEqual(len(rows), 400)
        self.assertLessEqual(max(map(len, rows)), 120)
        for node in walk_of(path):
            if isinstance(node, ast.FunctionDef):
                self.assertLessEqual(node.end_lineno - node.lineno + 1, 40, node.name)

    @on_each_file
    def test_only_the_told_forms(self, path):
        for node in walk_of(path):
            self.assertIn(type(node).__name__, NODES, getattr(node, "lineno", None))
            if isinstance(node, ast.Constant):
                self.assertIsInstance(node.value, (int, str, type(None)))
                self.assertNotIn(chr(37), str(node.value))
            if isinstance(node, ast.FormattedValue):
                self.assertIsInstance(node.value, ast.Name)
                self.assertIsNone(node.format_spec)
            if isinstance(node, ast.Assign):
                self.assertEqual(len(node.targets), 1)
            if isinstance(node, (ast.For, ast.While)):
                self.assertEqual(node.orelse, [])
            if isinstance(node, ast.Try):
                self.assertEqual(node.finalbody, [])
            if isinstance(node, ast.ListComp):
                self.assertEqual(len(node.generators), 1)
                self.assertLessEqual(len(node.generators[0].ifs), 1)

    @on_each_file
    def test_functions_and_classes(self, path):
        for node in walk_of(path):
            if isinstance(node, (ast.FunctionDef, ast.ClassDef)):
                self.assertEqual(node.decorator_list, [])
            if isinstance(node, ast.arguments):
                self.assertEqual([node.vararg, node.kwarg, node.kwonlyargs, node.posonlyargs], [None, None, [], []])
            if isinstance(node, ast.ClassDef):
                self.assertLessEqual(len(node.bases), 1)
                for part in node.body:
                    self.assertIsInstance(part, (ast.FunctionDef, ast.Pass))

    @on_each_file
    def test_top_of_a_file(self, path):
        body = ast.parse(path.read_text(encoding="ascii")).body
        self.assertIsInstance(body[0], ast.Expr)
        self.assertIsInstance(body[0].value, ast.Constant)
        for node in body[1:]:
            self.assertIsInstance(node, (ast.ImportFrom, ast.FunctionDef, ast.ClassDef, ast.Assign))
        names = defs_in(path)
        self.assertEqual(len(names), len(set(names)))

    @on_each_file
    def test_imports(self, path):
        top = ast.parse(path.read_text(encoding="ascii")).body
        for node in imports_of(path):
            self.assertIn(node.lineno, [part.lineno for part in top])
            self.assertEqual(node.level, 0)
            self.assertRegex(node.module, r"^limb\.[a-z0-9_]+$")
            for name in node.names:
                self.assertIn(name.name, defs_in(PACKAGE / (drawn_stem(node) + ".py")))

    def test_no_files_draw_from_one_another(self):
        drawn = {path.stem: [drawn_stem(node) for node in imports_of(path)] for path in package_files()}
        while drawn:
            free = [stem for stem in drawn if not any(other in drawn for other in drawn[stem])]
            self.assertTrue(free, "these files draw from one another: " + " ".join(drawn))
            drawn = {stem: drawn[stem] for stem in drawn if stem not in free}

    @on_each_file
    def test_names(self, path):
        nodes = walk_of(path)
        defined = [node.name for node in nodes if isinstance(node, (ast.FunctionDef, ast.ClassDef))]
        for name in bound_names(nodes) + defined:
            if name not in UNDERSCORED:
                self.assertRegex(name, r"^[A-Za-z][A-Za-z0-9_]*$")
        for name in bound_names(nodes):
            self.assertNotIn(name, dir(builtins))
        for node in nodes:
            if isinstance(node, ast.Name):
                self.assertNotIn(node.id, UNUSED)
                if node.id in dir(builtins):
                    self.assertIn(node.id, BUILTINS)

    @on_each_file
    def test_methods(self, path):
        known = METHODS + own_methods()
        for node in walk_of(path):
            if isinstance(node, ast.Attribute):
                self.assertNotIn(node.attr, UNUSED)
            if isinstance(node, ast.Call) and isinstance(node.func, ast.Attribute):
                self.assertIn(node.func.attr, known)

    @on_each_file
    def test_names_of_imports_and_classes_have_one_meaning(self, path):
        nodes = walk_of(path)
        taken = [name.name for node in imports_of(path) for name in node.names]
        taken += [node.name for node in nodes if isinstance(node, ast.ClassDef)]
        for name in bound_names(nodes):
            self.assertNotIn(name, taken)

    def test_no_name_is_a_method_and_a_value(self):
        self.assertEqual([name for name in stored_values() if name in methods_of_classes()], [])

    def test_values_have_free_names(self):
        pythons_own = [name for kind in (str, int, list, dict, set, bytes, tuple) for name in dir(kind)]
        for name in stored_values():
            self.assertNotIn(name, pythons_own + ["args"])

    @on_each_file
    def test_names_at_the_top_are_only_read(self, path):
        body = ast.parse(path.read_text(encoding="ascii")).body
        kept = [target.id for node in body if isinstance(node, ast.Assign) for target in node.targets]
        for node in walk_of(path):
            if isinstance(node, (ast.Attribute, ast.Subscript)) and isinstance(node.value, ast.Name):
                if node.value.id in kept:
                    self.assertIsInstance(node.ctx, ast.Load)
                    self.assertIn(getattr(node, "attr", "get"), ["get", "items", "keys", "values"])

    @on_each_file
    def test_what_is_walked_is_walked_at_once(self, path):
        nodes = walk_of(path)
        walked = [node.iter for node in nodes if isinstance(node, (ast.For, ast.comprehension))]
        for node in nodes:
            if isinstance(node, ast.Call) and isinstance(node.func, ast.Name) and node.args:
                if node.func.id in WALKERS or node.func.id in ("min", "max") and len(node.args) == 1:
                    walked.append(node.args[0])
        for node in nodes:
            if isinstance(node, ast.Call) and called_name(node) in WALKED:
                self.assertIn(node, walked, node.lineno)

    @on_each_file
    def test_methods_are_called_where_they_stand(self, path):
        nodes = walk_of(path)
        called = [node.func for node in nodes if isinstance(node, ast.Call)]
        for node in nodes:
            if isinstance(node, ast.Attribute) and node.attr in METHODS + methods_of_classes():
                self.assertIn(node, called, node.lineno)

    @on_each_file
    def test_keywords(self, path):
        for node in walk_of(path):
            if isinstance(node, ast.Call):
                for keyword in node.keywords:
                    self.assertIn(keyword.arg, KEYWORDS.get(called_name(node), []), node.lineno)

    @on_each_file
    def test_no_annotations(self, path):
        for node in walk_of(path):
            self.assertIsNone(getattr(node, "annotation", None))
            self.assertIsNone(getattr(node, "returns", None))

    @on_each_file
    def test_is_stands_beside_none_and_truths(self, path):
        for node in walk_of(path):
            if isinstance(node, ast.Compare):
                for sign, right in zip(node.ops, node.comparators):
                    if isinstance(sign, (ast.Is, ast.IsNot)):
                        self.assertIsInstance(right, ast.Constant)
                        self.assertIn(right.value, (None, True, False))


if __name__ == "__main__":
    unittest.main()
