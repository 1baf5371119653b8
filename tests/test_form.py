"""Point [1] and the interface as far as the package's own files show them, and the form they keep to."""

import ast
import builtins
import inspect
import pathlib
import re
import unittest

from evenwear import chips

PACKAGE = pathlib.Path(chips.__file__).parent

OWN_NAMES = set("""
    len range enumerate zip min max sum abs sorted reversed int str bool list tuple dict set frozenset isinstance
    ord repr any all divmod Exception ValueError TypeError KeyError IndexError LookupError ZeroDivisionError
    ArithmeticError OverflowError RuntimeError NotImplementedError StopIteration
""".split())

NODES = set("""
    Module ImportFrom alias FunctionDef ClassDef arguments arg Return Assign AugAssign For While If Raise Try
    ExceptHandler Expr Pass Break Continue Lambda BoolOp And Or BinOp Add Sub Mult FloorDiv Mod Pow LShift RShift
    BitOr BitXor BitAnd UnaryOp Invert Not USub Compare Eq NotEq Lt LtE Gt GtE Is IsNot In NotIn IfExp Call keyword
    Attribute Subscript Slice Constant Name Load Store List Tuple Dict ListComp comprehension JoinedStr
    FormattedValue
""".split())

LEFT_OUT = re.compile(r"""
    \b(type|typing|typing_extensions|enum|Enum|IntEnum|StrEnum|Flag|IntFlag|Generic|Protocol|ABC|ABCMeta
    |namedtuple|NamedTuple|TypedDict|TYPE_CHECKING|abstractmethod)\b|dataclass|overload|contextmanager
""", re.VERBOSE)


def sources():
    return {path.name: path.read_text(encoding="utf-8") for path in sorted(PACKAGE.glob("*.py"))}


def nodes(kind):
    return [(name, node) for name, text in sources().items() for node in ast.walk(ast.parse(text))
            if isinstance(node, kind)]


class FormTest(unittest.TestCase):
    def test_the_package_holds_python_files_alone(self):
        held = [path for path in PACKAGE.iterdir() if path.name != "__pycache__"]
        for path in held:
            self.assertRegex(path.name, r"^[a-z][a-z0-9_]*\.py$|^__init__\.py$")
        self.assertIn("__init__.py", [path.name for path in held])

    def test_the_init_binds_nothing(self):
        self.assertEqual(ast.parse(sources()["__init__.py"]).body, [])

    def test_nothing_from_outside_is_drawn_in(self):
        for name, node in nodes(ast.ImportFrom):
            self.assertRegex(node.module, r"^evenwear\.[a-z]", name)
            self.assertEqual(node.level, 0, name)
        self.assertEqual(nodes(ast.Import), [])

    def test_names_of_pythons_own(self):
        for name, node in nodes(ast.Name):
            if hasattr(builtins, node.id):
                self.assertIn(node.id, OWN_NAMES, f"{name}: {node.lineno}")

    def test_forms_of_the_language(self):
        for name, node in nodes(ast.AST):
            self.assertIn(type(node).__name__, NODES, f"{name}: {getattr(node, 'lineno', 0)}")

    def test_sizes(self):
        for name, text in sources().items():
            rows = text.split("\n")
            self.assertLessEqual(len(rows), 400, name)
            self.assertLessEqual(max(map(len, rows)), 120, name)
        for name, node in nodes(ast.FunctionDef):
            self.assertLessEqual(node.end_lineno - node.lineno + 1, 40, f"{name}: {node.name}")

    def test_signs_and_words(self):
        for name, text in sources().items():
            self.assertRegex(text, r"\A[ -~\n]*\Z", name)
            self.assertIsNone(LEFT_OUT.search(text), name)

    def test_no_name_begins_with_an_underscore(self):
        for name, node in nodes((ast.Name, ast.arg, ast.Attribute, ast.FunctionDef, ast.ClassDef)):
            for called in (getattr(node, key, None) for key in ("id", "arg", "attr", "name")):
                if called is not None and called != "__init__":
                    self.assertFalse(called.startswith("_"), f"{name}: {called}")

    def test_no_name_is_a_method_and_a_value(self):
        methods = {part.name for name, node in nodes(ast.ClassDef) for part in node.body
                   if isinstance(part, ast.FunctionDef)}
        values = {node.attr for name, node in nodes(ast.Attribute) if isinstance(node.ctx, ast.Store)}
        self.assertEqual(methods & values, set())


class InterfaceTest(unittest.TestCase):
    def test_names_and_arguments_of_chips(self):
        told = {
            "page": ["block", "page"], "write": ["block", "page", "thing"], "erase": ["block"],
            "power": ["many"], "worn": ["block"], "written": [], "size": [], "__init__": ["blocks", "pages"],
        }
        for name, given in told.items():
            self.assertEqual(list(inspect.signature(getattr(chips.Chip, name)).parameters), ["self"] + given)
        self.assertEqual(list(inspect.signature(chips.copied).parameters), ["chip"])


if __name__ == "__main__":
    unittest.main()
