"""Point [1] and the interface as far as the package's own files show them, and the form they keep to."""

import ast
import builtins
import inspect
import pathlib
import re
import unittest

from evenwear import chips, desk, disks

PACKAGE = pathlib.Path(chips.__file__).parent

OWN_NAMES = set("""
    len range enumerate zip min max sum abs sorted reversed int str bool list tuple dict set frozenset isinstance
    ord repr any all divmod Exception ValueError TypeError KeyError IndexError LookupError ZeroDivisionError
    ArithmeticError OverflowError RuntimeError NotImplementedError StopIteration
""".split())

NODES = set("""
    Module ImportFrom alias FunctionDef ClassDef arguments arg Return Assign AugAssign For While If Raise Try
    ExceptHandler Expr Pass Break Continue Lambda BoolOp And Or BinOp Add Sub Mult FloorDiv Mod Pow LShift RShift
    BitOr BitXor BitAnd UnaryOp Invert Not USub Compare Eq NotEq Lt LtE Gt GtE Is IsNot In NotIn IfExp Call keyword
    Attribute Subscript Slice Constant Name Load Store List Tuple Dict ListComp comprehension JoinedStr
    FormattedValue
""".split())

# The methods of Python's own values that the package may call.
METHODS = set("""
    append clear copy count endswith extend find get index insert isalnum isalpha isdigit islower isspace isupper
    items join keys ljust lower lstrip partition pop remove replace reverse rfind rjust rpartition rsplit rstrip
    setdefault split splitlines startswith strip update upper values zfill bit_length
""".split())

LEFT_OUT = re.compile(r"""
    \b(type|typing|typing_extensions|enum|Enum|IntEnum|StrEnum|Flag|IntFlag|Generic|Protocol|ABC|ABCMeta
    |namedtuple|NamedTuple|TypedDict|TYPE_CHECKING|abstractmethod)\b|dataclass|overload|contextmanager
""", re.VERBOSE)


def sources():
    return {path.name: path.read_text(encoding="utf-8") for path in sorted(PACKAGE.glob("*.py"))}


def nodes(kind):
    return [(name, node) for name, text in sources().items() for node in ast.walk(ast.parse(text))
            if isinstance(node, kind)]


class FormTest(unittest.TestCase):
    def test_the_package_holds_python_files_alone(self):
        held = [path for path in PACKAGE.iterdir() if path.name != "__pycache__"]
        for path in held:
            self.assertRegex(path.name, r"^[a-z][a-z0-9_]*\.py$|^__init__\.py$")
        self.assertIn("__init__.py", [path.name for path in held])

    def test_the_init_binds_nothing(self):
        self.assertEqual(ast.parse(sources()["__init__.py"]).body, [])

    def test_nothing_from_outside_is_drawn_in(self):
        for name, node in nodes(ast.ImportFrom):
            self.assertRegex(node.module, r"^evenwear\.[a-z]", name)
            self.assertEqual(node.level, 0, name)
        self.assertEqual(nodes(ast.Import), [])

    def test_names_of_pythons_own(self):
        for name, node in nodes(ast.Name):
            if hasattr(builtins, node.id):
                self.assertIn(node.id, OWN_NAMES, f"{name}: {node.lineno}")

    def test_forms_of_the_language(self):
        for name, node in nodes(ast.AST):
            self.assertIn(type(node).__name__, NODES, f"{name}: {getattr(node, 'lineno', 0)}")

    def test_sizes(self):
        for name, text in sources().items():
            rows = text.split("\n")
            self.assertLessEqual(len(rows), 400, name)
            self.assertLessEqual(max(map(len, rows)), 120, name)
        for name, node in nodes(ast.FunctionDef):
            self.assertLessEqual(node.end_lineno - node.lineno + 1, 40, f"{name}: {node.name}")

    def test_signs_and_words(self):
        for name, text in sources().items():
            self.assertRegex(text, r"\A[ -~\n]*\Z", name)
            self.assertIsNone(LEFT_OUT.search(text), name)

    def test_no_name_begins_with_an_underscore(self):
        for name, node in nodes((ast.Name, ast.arg, ast.Attribute, ast.FunctionDef, ast.ClassDef)):
            for called in (getattr(node, key, None) for key in ("id", "arg", "attr", "name")):
                if called is not None and called != "__init__":
                    self.assertFalse(called.startswith("_"), f"{name}: {called}")

    def test_no_name_is_a_method_and_a_value(self):
        methods = {part.name for name, node in nodes(ast.ClassDef) for part in node.body
                   if isinstance(part, ast.FunctionDef)}
        values = {node.attr for name, node in nodes(ast.Attribute) if isinstance(node.ctx, ast.Store)}
        self.assertEqual(methods & values, set())


    def test_the_top_of_each_file(self):
        for name, text in sources().items():
            for node in ast.parse(text).body:
                docstring = isinstance(node, ast.Expr) and isinstance(node.value, ast.Constant)
                kinds = (ast.ImportFrom, ast.FunctionDef, ast.ClassDef, ast.Assign)
                self.assertTrue(docstring or isinstance(node, kinds), f"{name}: {node.lineno}")

    def test_each_name_is_bound_once_at_the_top(self):
        for name, text in sources().items():
            bound = []
            for node in ast.parse(text).body:
                if isinstance(node, ast.ImportFrom):
                    bound += [part.name for part in node.names]
                elif isinstance(node, ast.Assign):
                    bound += [target.id for target in node.targets]
                elif isinstance(node, (ast.FunctionDef, ast.ClassDef)):
                    bound.append(node.name)
            self.assertEqual(sorted(set(bound)), sorted(bound), name)

    def test_no_parameter_and_no_local_is_called_like_another_thing(self):
        for name, text in sources().items():
            tree = ast.parse(text)
            taken = set(dir(builtins)) | {node.name for node in ast.walk(tree) if isinstance(node, ast.ClassDef)}
            taken |= {part.name for node in tree.body if isinstance(node, ast.ImportFrom) for part in node.names}
            bound = {node.arg for node in ast.walk(tree) if isinstance(node, ast.arg)}
            bound |= {node.id for node in ast.walk(tree) if isinstance(node, ast.Name)
                      and isinstance(node.ctx, ast.Store)}
            self.assertEqual(bound & taken, set(), name)

    def test_no_two_files_draw_from_one_another(self):
        drawn = {name: set() for name in sources()}
        for name, node in nodes(ast.ImportFrom):
            drawn[name].add(node.module.split(".")[1] + ".py")
            text = sources()[node.module.split(".")[1] + ".py"]
            for part in node.names:
                self.assertRegex(text, rf"(?m)^(class |def )?{part.name}\b", f"{name}: {part.name}")
        while drawn:
            free = [name for name in drawn if not drawn[name] & set(drawn)]
            self.assertNotEqual(free, [])
            for name in free:
                drawn.pop(name)

    def test_methods(self):
        own = {node.name for name, node in nodes(ast.FunctionDef)}
        for name, node in nodes(ast.Call):
            if isinstance(node.func, ast.Attribute):
                self.assertIn(node.func.attr, METHODS | own, f"{name}: {node.lineno}")

    def test_is_stands_beside_none_true_and_false_alone(self):
        for name, node in nodes(ast.Compare):
            if any(isinstance(sign, (ast.Is, ast.IsNot)) for sign in node.ops):
                self.assertIn(getattr(node.comparators[0], "value", ...), (None, True, False), f"{name}: {node.lineno}")

    def test_texts_and_powers(self):
        for name, node in nodes(ast.Constant):
            self.assertFalse(isinstance(node.value, str) and "%" in node.value, f"{name}: {node.lineno}")
            self.assertFalse(isinstance(node.value, (float, bytes)), f"{name}: {node.lineno}")
        for name, node in nodes(ast.Pow):
            self.fail(name)

    def test_one_target_in_an_assignment(self):
        for name, node in nodes(ast.Assign):
            self.assertEqual(len(node.targets), 1, f"{name}: {node.lineno}")
            self.assertNotIsInstance(node.targets[0], (ast.Tuple, ast.List), f"{name}: {node.lineno}")

    def test_errors_are_taken_by_names_of_the_package(self):
        from_errors = {node.name for name, node in nodes(ast.ClassDef) if name == "errors.py"}
        for name, node in nodes(ast.ExceptHandler):
            self.assertIn(getattr(node.type, "id", None), from_errors, f"{name}: {node.lineno}")


class InterfaceTest(unittest.TestCase):
    def test_names_and_arguments_of_chips(self):
        told = {
            "page": ["block", "page"], "write": ["block", "page", "thing"], "erase": ["block"],
            "power": ["many"], "worn": ["block"], "written": [], "size": [], "__init__": ["blocks", "pages"],
        }
        for name, given in told.items():
            self.assertEqual(list(inspect.signature(getattr(chips.Chip, name)).parameters), ["self"] + given)
        self.assertEqual(list(inspect.signature(chips.copied).parameters), ["chip"])

    def test_names_and_arguments_of_disks(self):
        for name, given in {"read": ["sector"], "write": ["sector", "content"], "sectors": []}.items():
            self.assertEqual(list(inspect.signature(getattr(disks.Disk, name)).parameters), ["self"] + given)
        self.assertEqual(list(inspect.signature(disks.mounted).parameters), ["chip", "sectors"])

    def test_names_and_arguments_of_the_desk(self):
        self.assertEqual(list(inspect.signature(desk.play).parameters), ["text"])


if __name__ == "__main__":
    unittest.main()
