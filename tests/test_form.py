"""The form of the package's files: the rules of LANGUAGE.md that can be seen without running anything."""

import ast
import pathlib
import re
import unittest

ROOT = pathlib.Path(__file__).resolve().parent.parent
PACKAGE = ROOT / "pactboards"
NODES = (
    "Module FunctionDef ClassDef arguments arg Lambda Return Assign AugAssign AnnAssign For While If Raise Try "
    "ExceptHandler ImportFrom alias Expr Pass Break Continue BoolOp BinOp UnaryOp IfExp Dict Set ListComp "
    "comprehension Compare Call JoinedStr FormattedValue Constant Attribute Subscript Name List Tuple Slice keyword "
    "Load Store And Or Add Sub Mult FloorDiv Mod Pow LShift RShift BitOr BitXor BitAnd Invert Not UAdd USub "
    "Eq NotEq Lt LtE Gt GtE Is IsNot In NotIn").split()
OWN_NAMES = (
    "len range enumerate zip min max sum abs sorted reversed int str bool list tuple dict set frozenset isinstance "
    "ord repr any all divmod Exception ValueError TypeError KeyError IndexError LookupError ZeroDivisionError "
    "ArithmeticError OverflowError RuntimeError NotImplementedError AttributeError StopIteration").split()
METHODS = (
    "append clear copy count endswith extend find get index insert isalnum isalpha isdigit islower isspace isupper "
    "items join keys ljust lower lstrip partition pop remove replace reverse rfind rjust rpartition rsplit rstrip "
    "setdefault split splitlines startswith strip update upper values zfill bit_length").split()
UNUSED = (
    "register mro elements open input version_info with_traceback add_note format format_map attrgetter breakpoint "
    "builtins compile copyright credits delattr dir eval exec exit gc getattr globals hasattr help id importlib "
    "license locals methodcaller os quit setattr super type vars sys chr next map hash filter print").split()
WORDS = (
    "type typing typing_extensions enum Enum IntEnum StrEnum Flag IntFlag Generic Protocol ABC ABCMeta namedtuple "
    "NamedTuple TypedDict TYPE_CHECKING abstractmethod").split()
PARTS = ("dataclass", "overload", "contextmanager")
DUNDER = ("__init__", "__eq__", "__repr__", "__str__", "__len__")


def files():
    return sorted(PACKAGE.rglob("*.py"))


def trees():
    return [(path, ast.parse(path.read_text(encoding="utf-8"))) for path in files()]


def own_definitions():
    """The names of the package's functions, classes and methods."""
    return {node.name for path, tree in trees() for node in ast.walk(tree)
            if isinstance(node, (ast.FunctionDef, ast.ClassDef))}


def bound_names(node):
    """The names that a function's or file's rows bind."""
    for inner in ast.walk(node):
        if isinstance(inner, ast.Name) and isinstance(inner.ctx, ast.Store):
            yield inner.id
        elif isinstance(inner, ast.arg):
            yield inner.arg
        elif isinstance(inner, ast.ExceptHandler) and inner.name:
            yield inner.name


class Files(unittest.TestCase):
    def test_one_package_of_plain_files(self):
        names = [path.name for path in PACKAGE.iterdir() if path.name != "__pycache__"]
        self.assertIn("__init__.py", names)
        for name in names:
            self.assertRegex(name, r"\A(__init__|[a-z][a-z0-9_]*)\.py\Z")

    def test_signs_and_sizes(self):
        for path in files():
            rows = path.read_bytes().decode("ascii").split("\n")
            self.assertLessEqual(len(rows), 400, path)
            for row in rows:
                self.assertRegex(row, r"\A[ -~]*\Z", path)
                self.assertLessEqual(len(row), 120, (path, row))

    def test_words_that_stand_nowhere(self):
        for path in files():
            text = path.read_text(encoding="utf-8")
            self.assertEqual(set(re.findall(r"\w+", text)) & set(WORDS), set(), path)
            for part in PARTS:
                self.assertNotIn(part, text, path)

    def test_the_top_of_a_file(self):
        for path, tree in trees():
            self.assertIsNotNone(ast.get_docstring(tree), path)
            bound = []
            for node in tree.body[1:]:
                self.assertIsInstance(node, (ast.ImportFrom, ast.FunctionDef, ast.ClassDef, ast.Assign), path)
                if isinstance(node, ast.Assign):
                    bound += bound_names(node)
                elif isinstance(node, ast.ImportFrom):
                    bound += [alias.name for alias in node.names]
                else:
                    bound.append(node.name)
            self.assertEqual(len(bound), len(set(bound)), path)


class Rows(unittest.TestCase):
    def test_imports(self):
        draws = {}
        for path, tree in trees():
            draws[path.stem] = set()
            for node in ast.walk(tree):
                if isinstance(node, ast.ImportFrom):
                    self.assertEqual((node.level, node.module.split(".")[0]), (0, "pactboards"), path)
                    source = ast.parse((PACKAGE / (node.module.split(".")[1] + ".py")).read_text(encoding="utf-8"))
                    defined = {inner.name for inner in source.body if isinstance(inner, (ast.FunctionDef, ast.ClassDef))}
                    defined |= {name for inner in source.body if isinstance(inner, ast.Assign)
                                for name in bound_names(inner)}
                    for alias in node.names:
                        self.assertIn(alias.name, defined, path)
                    draws[path.stem].add(node.module.split(".")[1])
        while draws:
            ends = [name for name, others in draws.items() if not others & set(draws)]
            self.assertTrue(ends, f"these draw from one another: {draws}")
            for name in ends:
                draws.pop(name)

    def test_statements_and_expressions(self):
        for path, tree in trees():
            for node in ast.walk(tree):
                with self.subTest(path=path.name, row=getattr(node, "lineno", None)):
                    self.assertIn(node.__class__.__name__, NODES)
                    self.look_at(node)

    def look_at(self, node):
        if isinstance(node, ast.Assign):
            self.assertEqual(len(node.targets), 1)
            self.assertNotIsInstance(node.targets[0], (ast.Tuple, ast.List))
        elif isinstance(node, ast.Expr):
            self.assertIsInstance(node.value, (ast.Call, ast.Constant))
        elif isinstance(node, (ast.For, ast.While)):
            self.assertEqual(node.orelse, [])
        elif isinstance(node, ast.Try):
            self.assertEqual(node.finalbody, [])
        elif isinstance(node, ast.ListComp):
            self.assertEqual(len(node.generators), 1)
            self.assertLessEqual(len(node.generators[0].ifs), 1)
        elif isinstance(node, ast.Constant):
            self.assertIn(node.value.__class__, (int, str, bool, None.__class__))
            self.assertFalse(isinstance(node.value, str) and "%" in node.value)
        elif isinstance(node, ast.FormattedValue):
            self.assertIsInstance(node.value, ast.Name)
            self.assertIsNone(node.format_spec)
        elif isinstance(node, ast.Compare):
            for op, right in zip(node.ops, node.comparators):
                if isinstance(op, (ast.Is, ast.IsNot)):
                    self.assertIsInstance(right, ast.Constant)
        elif isinstance(node, ast.arguments):
            self.assertFalse(node.vararg or node.kwarg or node.kwonlyargs or node.posonlyargs)
        elif isinstance(node, (ast.FunctionDef, ast.ClassDef)):
            self.assertEqual(node.decorator_list, [])

    def test_functions_are_small(self):
        for path, tree in trees():
            for node in ast.walk(tree):
                if isinstance(node, ast.FunctionDef):
                    self.assertLessEqual(node.end_lineno - node.lineno + 1, 40, (path, node.name))

    def test_classes(self):
        for path, tree in trees():
            for node in ast.walk(tree):
                if isinstance(node, ast.ClassDef):
                    self.assertLessEqual(len(node.bases), 1, (path, node.name))
                    for inner in node.body:
                        self.assertIsInstance(inner, (ast.FunctionDef, ast.Pass), (path, node.name))


class Names(unittest.TestCase):
    def test_plain_names(self):
        for path, tree in trees():
            names = list(bound_names(tree))
            names += [node.attr for node in ast.walk(tree) if isinstance(node, ast.Attribute)]
            names += [node.name for node in ast.walk(tree) if isinstance(node, (ast.FunctionDef, ast.ClassDef))]
            for name in names:
                self.assertTrue(name in DUNDER or re.fullmatch("[A-Za-z][A-Za-z0-9_]*", name), (path, name))
                self.assertNotIn(name, UNUSED, path)

    def test_nothing_is_called_like_a_name_of_pythons_own_or_an_import(self):
        for path, tree in trees():
            taken = set(OWN_NAMES)
            for node in tree.body:
                if isinstance(node, ast.ImportFrom):
                    taken |= {alias.name for alias in node.names}
                elif isinstance(node, ast.ClassDef):
                    taken.add(node.name)
            self.assertEqual(taken & set(bound_names(tree)), set(), path)

    def test_names_that_are_read(self):
        for path, tree in trees():
            known = set(OWN_NAMES) | set(bound_names(tree))
            for node in tree.body:
                if isinstance(node, ast.ImportFrom):
                    known |= {alias.name for alias in node.names}
                elif isinstance(node, (ast.FunctionDef, ast.ClassDef)):
                    known.add(node.name)
            for node in ast.walk(tree):
                if isinstance(node, ast.Name):
                    self.assertIn(node.id, known, path)

    def test_methods_that_are_called(self):
        known = set(METHODS) | own_definitions()
        for path, tree in trees():
            for node in ast.walk(tree):
                if isinstance(node, ast.Call) and isinstance(node.func, ast.Attribute):
                    self.assertIn(node.func.attr, known, path)


if __name__ == "__main__":
    unittest.main()
