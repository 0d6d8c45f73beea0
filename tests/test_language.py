"""Rules of the language that the files of the package show at a glance; so nothing hangs on a clock or a file (0.2)."""

import ast
import builtins
import pathlib
import re
import unittest

PACKAGE = pathlib.Path(__file__).resolve().parent.parent / "matepoint"
FILES = sorted(PACKAGE.glob("*.py"))
ALLOWED_BUILTINS = set((
    "len range enumerate zip min max sum abs sorted reversed int str bool bytes list tuple dict set frozenset "
    "isinstance ord repr any all divmod Exception ValueError TypeError KeyError IndexError LookupError "
    "ZeroDivisionError ArithmeticError OverflowError RuntimeError NotImplementedError AttributeError StopIteration"
).split())
BARRED_NODES = (
    ast.With, ast.Match, ast.Global, ast.Nonlocal, ast.Yield, ast.YieldFrom, ast.AsyncFunctionDef, ast.GeneratorExp,
    ast.NamedExpr, ast.Div, ast.Import,
)
BARRED_WORDS = re.compile(
    r"\b(type|typing|typing_extensions|enum|Enum|IntEnum|StrEnum|Flag|IntFlag|Generic|Protocol|ABC|ABCMeta|namedtuple"
    r"|NamedTuple|TypedDict|TYPE_CHECKING|abstractmethod|register|mro|elements|open|input)\b"
    r"|dataclass|overload|contextmanager"
)


def nodes():
    """Every node of the package's code, with a name for messages."""
    for path in FILES:
        for node in ast.walk(ast.parse(path.read_text())):
            yield f"{path.name}:{getattr(node, 'lineno', 0)}", node


class LanguageTest(unittest.TestCase):
    def test_the_folder_has_nothing_but_files_of_code(self):
        others = [path.name for path in PACKAGE.iterdir() if path not in FILES and path.name != "__pycache__"]
        self.assertEqual(others, [])
        self.assertIn(PACKAGE / "__init__.py", FILES)

    def test_signs_and_sizes_of_files(self):
        for path in FILES:
            text = path.read_bytes().decode("ascii")
            with self.subTest(path.name):
                self.assertEqual([sign for sign in text if sign != "\n" and not " " <= sign <= "~"], [])
                self.assertLessEqual(len(text.splitlines()), 400)
                self.assertLessEqual(max(map(len, text.splitlines())), 120)

    def test_barred_words(self):
        for path in FILES:
            self.assertIsNone(BARRED_WORDS.search(path.read_text()), path.name)

    def test_functions_are_small_and_plain(self):
        for name, node in nodes():
            if isinstance(node, ast.FunctionDef):
                with self.subTest(name):
                    self.assertLessEqual(node.end_lineno - node.lineno + 1, 40)
                    self.assertEqual((node.decorator_list, node.args.vararg, node.args.kwarg), ([], None, None))

    def test_imports_are_from_the_package_alone(self):
        for name, node in nodes():
            if isinstance(node, ast.ImportFrom):
                self.assertTrue(node.level == 0 and node.module.startswith("matepoint."), name)

    def test_barred_statements_and_expressions(self):
        for name, node in nodes():
            self.assertNotIsInstance(node, BARRED_NODES, name)
            self.assertFalse(isinstance(node, ast.Constant) and isinstance(node.value, (float, complex)), name)

    def test_builtins(self):
        for name, node in nodes():
            if isinstance(node, ast.Name) and hasattr(builtins, node.id):
                self.assertIn(node.id, ALLOWED_BUILTINS, name)
                self.assertIsInstance(node.ctx, ast.Load, name)


if __name__ == "__main__":
    unittest.main()
