"""The package's files keep to the small part of Python that the project asks for, as far as a look can tell."""

import ast
import builtins
import pathlib
import re
import unittest

FOLDER = pathlib.Path(__file__).resolve().parent.parent / "chartfold"
FILES = sorted(FOLDER.glob("*.py"))

OWN_NAMES = set("""
    len range enumerate zip min max sum abs sorted reversed int str bool list tuple dict set frozenset isinstance
    ord repr any all divmod Exception ValueError TypeError KeyError IndexError LookupError ZeroDivisionError
    ArithmeticError OverflowError RuntimeError NotImplementedError AttributeError StopIteration
""".split())

METHODS = set("""
    append clear copy count endswith extend find get index insert isalnum isalpha isdigit islower isspace isupper
    items join keys ljust lower lstrip partition pop remove replace reverse rfind rjust rpartition rsplit rstrip
    setdefault split splitlines startswith strip update upper values zfill bit_length __init__
""".split())

WORDS_OUT = re.compile(
    r"\b(type|typing|typing_extensions|enum|Enum|IntEnum|StrEnum|Flag|IntFlag|Generic|Protocol|ABC|ABCMeta|"
    r"namedtuple|NamedTuple|TypedDict|TYPE_CHECKING|abstractmethod)\b|dataclass|overload|contextmanager"
)

NODES_OUT = (
    ast.With, ast.Match, ast.Delete, ast.Global, ast.Nonlocal, ast.Assert, ast.Yield, ast.YieldFrom, ast.Await,
    ast.AsyncFunctionDef, ast.AsyncFor, ast.AsyncWith, ast.SetComp, ast.DictComp, ast.GeneratorExp, ast.NamedExpr,
    ast.Starred, ast.Div, ast.Import, ast.MatMult, ast.AnnAssign, ast.Set,
)

NAMES_OUT = set("register mro elements open input version_info with_traceback add_note format format_map".split())


def trees():
    return [(path.name, ast.parse(path.read_text(encoding="utf-8"))) for path in FILES]


def nodes(kind):
    return [(name, node) for name, tree in trees() for node in ast.walk(tree) if isinstance(node, kind)]


class Form(unittest.TestCase):
    def assert_none(self, found):
        self.assertEqual([(name, node.lineno) for name, node in found], [])

    def test_nothing_but_plain_files(self):
        names = [path.name for path in FOLDER.iterdir() if path.name != "__pycache__"]
        self.assertIn("__init__.py", names)
        for name in names:
            self.assertRegex(name, r"^([a-z][a-z0-9_]*|__init__|__main__)\.py$")

    def test_signs_and_lines(self):
        for path in FILES:
            text = path.read_text(encoding="utf-8")
            self.assertRegex(text, r"\A[ -~\n]*\Z")
            self.assertLessEqual(len(text.splitlines()), 400)
            self.assertLessEqual(max(len(line) for line in text.splitlines()), 120)
            self.assertIsNone(WORDS_OUT.search(text))

    def test_functions_are_small_and_plain(self):
        for name, node in nodes(ast.FunctionDef):
            with self.subTest(file=name, function=node.name):
                self.assertLessEqual(node.end_lineno - node.lineno + 1, 40)
                self.assertEqual(node.decorator_list, [])
                self.assertEqual((node.args.vararg, node.args.kwarg, node.args.kwonlyargs), (None, None, []))

    def test_forms_that_are_left_out(self):
        self.assert_none(nodes(NODES_OUT))
        self.assert_none([found for found in nodes((ast.For, ast.While)) if found[1].orelse])
        self.assert_none([found for found in nodes(ast.Try) if found[1].finalbody])

    def test_one_name_in_an_assignment(self):
        for name, node in nodes(ast.Assign):
            self.assertEqual(len(node.targets), 1)
            self.assertIsInstance(node.targets[0], (ast.Name, ast.Attribute, ast.Subscript))

    def test_values(self):
        for name, node in nodes(ast.Constant):
            self.assertIn(type(node.value), (int, str, bool, type(None)))
            if isinstance(node.value, str):
                self.assertNotIn("%", node.value)

    def test_braces_hold_plain_names(self):
        for name, node in nodes(ast.FormattedValue):
            self.assertIsInstance(node.value, ast.Name)
            self.assertIsNone(node.format_spec)

    def test_comprehensions(self):
        for name, node in nodes(ast.ListComp):
            self.assertEqual(len(node.generators), 1)
            self.assertLessEqual(len(node.generators[0].ifs), 1)

    def test_imports(self):
        for name, node in nodes(ast.ImportFrom):
            self.assertEqual(node.level, 0)
            self.assertRegex(node.module, r"^chartfold\.[a-z_]+$")
            bound = (FOLDER / (node.module.split(".")[1] + ".py")).read_text(encoding="utf-8")
            for told in node.names:
                self.assertIsNone(told.asname)
                self.assertRegex(bound, rf"(?m)^((def|class) {told.name}\b|{told.name} = )")

    def test_names(self):
        for name, node in nodes(ast.Name):
            if hasattr(builtins, node.id):
                self.assertIn(node.id, OWN_NAMES)
                self.assertIsInstance(node.ctx, ast.Load)
            self.assertFalse(node.id.startswith("_"))
            self.assertNotIn(node.id, NAMES_OUT)
        for name, node in nodes(ast.arg):
            self.assertFalse(hasattr(builtins, node.arg) or node.arg.startswith("_"))

    def test_methods_and_values(self):
        for name, node in nodes(ast.Attribute):
            self.assertNotIn(node.attr, NAMES_OUT)
        for name, node in nodes(ast.Call):
            if isinstance(node.func, ast.Attribute):
                self.assertIn(node.func.attr, METHODS)

    def test_is_stands_beside_none_true_and_false(self):
        for name, node in nodes(ast.Compare):
            for sign, right in zip(node.ops, node.comparators):
                if isinstance(sign, (ast.Is, ast.IsNot)):
                    self.assertIn(getattr(right, "value", "other"), (None, True, False))

    def test_locals_hide_no_import(self):
        for name, tree in trees():
            drawn = {told.name for node in ast.walk(tree) if isinstance(node, ast.ImportFrom) for told in node.names}
            classes = {node.name for node in ast.walk(tree) if isinstance(node, ast.ClassDef)}
            stored = {node.id for node in ast.walk(tree) if isinstance(node, ast.Name) and isinstance(node.ctx, ast.Store)}
            stored |= {node.arg for node in ast.walk(tree) if isinstance(node, ast.arg)}
            self.assertEqual(stored & (drawn | classes), set())


if __name__ == "__main__":
    unittest.main()
