"""The part of Python that the package keeps to: the rules that can be seen file by file."""

import ast
import builtins
import pathlib
import re
import unittest

PACKAGE = pathlib.Path(__file__).resolve().parent.parent / "formferry"

NODES = """
    Module FunctionDef ClassDef arguments arg Return Assign AugAssign For While If Raise Try ExceptHandler
    ImportFrom alias Expr Pass Break Continue BoolOp And Or BinOp Add Sub Mult FloorDiv Mod Pow LShift RShift
    BitOr BitXor BitAnd UnaryOp Not USub Invert Lambda IfExp Dict Set ListComp comprehension Compare Eq NotEq
    Lt LtE Gt GtE Is IsNot In NotIn Call keyword JoinedStr FormattedValue Constant Attribute Subscript Slice
    Name List Tuple Load Store
""".split()

OWN_OF_PYTHON = """
    len range enumerate zip min max sum abs sorted reversed int str bool list tuple dict set frozenset isinstance
    ord repr any all divmod Exception ValueError TypeError KeyError IndexError LookupError ZeroDivisionError
    ArithmeticError OverflowError RuntimeError NotImplementedError AttributeError StopIteration
""".split()

METHODS = """
    append clear copy count endswith extend find get index insert isalnum isalpha isdigit islower isspace isupper
    items join keys ljust lower lstrip partition pop remove replace reverse rfind rjust rpartition rsplit rstrip
    setdefault split splitlines startswith strip update upper values zfill bit_length
""".split()

OUT_WORDS = """
    type typing typing_extensions enum Enum IntEnum StrEnum Flag IntFlag Generic Protocol ABC ABCMeta namedtuple
    NamedTuple TypedDict TYPE_CHECKING abstractmethod
""".split()

WALKED_IN = ["list", "tuple", "dict", "sorted", "sum", "any", "all", "enumerate", "zip", "min", "max"]
WALKS = ["zip", "enumerate", "reversed", "range", "items", "keys", "values"]


def called(node):
    """The name that is called, or the empty text."""
    if not isinstance(node, ast.Call):
        return ""
    return node.func.id if isinstance(node.func, ast.Name) else getattr(node.func, "attr", "")


def bound_names(tree):
    for node in ast.walk(tree):
        if isinstance(node, (ast.FunctionDef, ast.ClassDef)):
            yield node.name
        elif isinstance(node, ast.arg):
            yield node.arg
        elif isinstance(node, ast.Name) and isinstance(node.ctx, ast.Store):
            yield node.id
        elif isinstance(node, ast.ExceptHandler) and node.name:
            yield node.name


def top_names(tree):
    """What a file defines at its top, as often as it does."""
    found = [node.name for node in tree.body if isinstance(node, (ast.FunctionDef, ast.ClassDef))]
    return found + [node.targets[0].id for node in tree.body if isinstance(node, ast.Assign)]


def methods_and_fields(tree):
    """What the program's own objects have: methods of classes and what is given to self."""
    found = set()
    for node in ast.walk(tree):
        if isinstance(node, ast.ClassDef):
            found.update(each.name for each in node.body if isinstance(each, ast.FunctionDef))
        elif isinstance(node, ast.Attribute) and isinstance(node.ctx, ast.Store):
            found.add(node.attr)
    return found


class TestLanguage(unittest.TestCase):
    @classmethod
    def setUpClass(cls):
        cls.files = sorted(path for path in PACKAGE.rglob("*") if "__pycache__" not in path.parts)
        cls.sources = {path.name: path.read_text(encoding="utf-8") for path in cls.files if path.is_file()}
        cls.trees = {name: ast.parse(source) for name, source in cls.sources.items()}

    def test_files(self):
        self.assertIn("__init__.py", self.sources)
        for path in self.files:
            self.assertRegex(path.name, r"^(__init__|__main__|[a-z][a-z0-9_]*)\.py$")
            if not path.stem.startswith("__"):
                self.assertFalse(hasattr(builtins, path.stem), path)

    def test_lines_and_signs(self):
        for name, source in self.sources.items():
            lines = source.split("\n")
            self.assertLessEqual(len(lines), 400, name)
            for number, line in enumerate(lines, start=1):
                with self.subTest(file=name, line=number):
                    self.assertLessEqual(len(line), 120)
                    self.assertRegex(line, r"^[ -~]*$")
            for word in OUT_WORDS:
                self.assertIsNone(re.search(rf"\b{word}\b", source), (name, word))

    def test_functions_are_short_and_plain(self):
        for name, tree in self.trees.items():
            for node in ast.walk(tree):
                if isinstance(node, ast.FunctionDef):
                    with self.subTest(file=name, function=node.name):
                        self.assertLessEqual(node.end_lineno - node.lineno + 1, 40)
                        self.assertEqual(node.decorator_list, [])
                        self.assertFalse(node.args.vararg or node.args.kwarg or node.args.kwonlyargs)

    def test_sorts_of_steps(self):
        for name, tree in self.trees.items():
            for node in ast.walk(tree):
                with self.subTest(file=name, line=getattr(node, "lineno", 0)):
                    self.assertIn(node.__class__.__name__, NODES)
                    if isinstance(node, (ast.For, ast.While)):
                        self.assertEqual(node.orelse, [])
                    if isinstance(node, ast.Assign):
                        self.assertEqual(len(node.targets), 1)
                    if isinstance(node, ast.ListComp):
                        self.assertEqual(len(node.generators), 1)
                        self.assertLessEqual(len(node.generators[0].ifs), 1)
                    if isinstance(node, ast.Constant):
                        self.assertIn(node.value.__class__, (int, str, bool, None.__class__))
                        self.assertNotIn("%", str(node.value))

    def test_imports(self):
        for name, tree in self.trees.items():
            for node in ast.walk(tree):
                if isinstance(node, ast.ImportFrom):
                    with self.subTest(file=name, line=node.lineno):
                        self.assertIn(node, tree.body)
                        self.assertEqual(node.level, 0)
                        self.assertRegex(node.module, r"^formferry\.[a-z_]+$")
                        self.assertNotIn("*", [each.name for each in node.names])

    def test_no_two_files_draw_from_one_another(self):
        drawn = {name: {node.module.split(".")[1] + ".py" for node in tree.body if isinstance(node, ast.ImportFrom)}
                 for name, tree in self.trees.items()}
        left = dict(drawn)
        while left:
            free = [name for name, others in left.items() if not others & set(left)]
            self.assertNotEqual(free, [], left)
            left = {name: others for name, others in left.items() if name not in free}

    def test_each_name_is_drawn_from_the_file_that_defines_it(self):
        for name, tree in self.trees.items():
            for node in tree.body:
                if isinstance(node, ast.ImportFrom):
                    defined = top_names(self.trees[node.module.split(".")[1] + ".py"])
                    self.assertLessEqual({each.name for each in node.names}, set(defined), (name, node.lineno))

    def test_names_are_bound_once_at_the_top_and_not_hidden(self):
        for name, tree in self.trees.items():
            drawn = [each.asname or each.name for node in tree.body if isinstance(node, ast.ImportFrom)
                     for each in node.names]
            tops = top_names(tree) + drawn
            self.assertEqual(len(set(tops)), len(tops), name)
            kept = set(drawn).union(node.name for node in tree.body if isinstance(node, ast.ClassDef))
            for each in ast.walk(tree):
                if isinstance(each, ast.FunctionDef):
                    self.assertEqual((set(bound_names(each)) - {each.name}) & kept, set(), (name, each.name))

    def test_errors_are_made_on_the_spot_and_is_stands_beside_none(self):
        for name, tree in self.trees.items():
            for node in ast.walk(tree):
                if isinstance(node, ast.Raise):
                    self.assertIsInstance(node.exc, ast.Call, (name, node.lineno))
                if isinstance(node, ast.Compare) and isinstance(node.ops[0], (ast.Is, ast.IsNot)):
                    sides = [node.left] + node.comparators
                    plain = [side for side in sides if isinstance(side, ast.Constant)]
                    self.assertTrue(any(side.value in (None, True, False) for side in plain), (name, node.lineno))

    def test_sets_are_not_kept_and_not_walked(self):
        for name, tree in self.trees.items():
            beside = set()
            for node in ast.walk(tree):
                if isinstance(node, ast.Compare):
                    beside.update([node.left] + node.comparators)
                elif called(node) in ["len", "sorted"]:
                    beside.update(node.args)
            for node in ast.walk(tree):
                if called(node) == "set":
                    self.assertIn(node, beside, (name, node.lineno))

    def test_names(self):
        special = ["__init__", "__eq__", "__repr__", "__str__", "__len__"]
        for name, tree in self.trees.items():
            own = set(bound_names(tree))
            for bound in own - set(special):
                with self.subTest(file=name, bound=bound):
                    self.assertRegex(bound, r"^[A-Za-z][A-Za-z0-9_]*$")
            for node in ast.walk(tree):
                if isinstance(node, ast.Name) and hasattr(builtins, node.id):
                    with self.subTest(file=name, line=node.lineno):
                        self.assertIn(node.id, OWN_OF_PYTHON)
                        self.assertIsInstance(node.ctx, ast.Load)
                if isinstance(node, ast.arg):
                    self.assertFalse(hasattr(builtins, node.arg), (name, node.lineno))

    def test_methods(self):
        own = {"__init__"}.union(*[methods_and_fields(tree) for tree in self.trees.values()])
        for name, tree in self.trees.items():
            for node in ast.walk(tree):
                if isinstance(node, ast.Attribute):
                    with self.subTest(file=name, line=node.lineno):
                        self.assertIn(node.attr, own.union(METHODS))

    def test_no_name_is_a_method_and_a_value(self):
        methods, values = set(), set()
        for tree in self.trees.values():
            for node in ast.walk(tree):
                if isinstance(node, ast.ClassDef):
                    methods.update(each.name for each in node.body if isinstance(each, ast.FunctionDef))
                elif isinstance(node, ast.Attribute) and isinstance(node.ctx, ast.Store):
                    values.add(node.attr)
        self.assertEqual(methods & values, set())
        for kind in (str, int, list, dict, set, bytes):
            self.assertEqual((methods | values - {"name"}) & set(dir(kind)) - {"__init__"}, set())

    def test_values_at_the_top_are_plain(self):
        for name, tree in self.trees.items():
            for node in tree.body:
                if isinstance(node, ast.Assign):
                    value = ast.literal_eval(node.value)
                    inner = list(value.values()) if isinstance(value, dict) else value
                    if isinstance(inner, list):
                        self.assertFalse(any(isinstance(each, (list, dict)) for each in inner), (name, node.lineno))

    def test_classes_hold_methods_alone(self):
        for name, tree in self.trees.items():
            for node in ast.walk(tree):
                if isinstance(node, ast.ClassDef):
                    self.assertIn(node, tree.body)
                    self.assertLessEqual(len(node.bases), 1)
                    for each in node.body:
                        self.assertIsInstance(each, (ast.FunctionDef, ast.Pass), (name, node.name))

    def test_walked_on_the_spot(self):
        for name, tree in self.trees.items():
            walked = set()
            for node in ast.walk(tree):
                if isinstance(node, (ast.For, ast.comprehension)):
                    walked.add(node.iter)
                elif called(node) in WALKED_IN + ["join"]:
                    walked.update(node.args)
            for node in ast.walk(tree):
                if called(node) in WALKS:
                    with self.subTest(file=name, line=node.lineno):
                        self.assertIn(node, walked)


if __name__ == "__main__":
    unittest.main()
