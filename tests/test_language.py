"""Rules of the language that the files of the package show at a glance; so nothing hangs on a clock or a file (0.2)."""

import ast
import builtins
import pathlib
import re
import unittest

PACKAGE = pathlib.Path(__file__).resolve().parent.parent / "matepoint"
FILES = sorted(PACKAGE.glob("*.py"))
ALLOWED_BUILTINS = set((
    "len range enumerate zip min max sum abs sorted reversed int str bool bytes list tuple dict set frozenset "
    "isinstance ord repr any all divmod Exception ValueError TypeError KeyError IndexError LookupError "
    "ZeroDivisionError ArithmeticError OverflowError RuntimeError NotImplementedError AttributeError StopIteration"
).split())
BARRED_NODES = (
    ast.With, ast.Match, ast.Global, ast.Nonlocal, ast.Yield, ast.YieldFrom, ast.AsyncFunctionDef, ast.GeneratorExp,
    ast.NamedExpr, ast.Div, ast.Import,
)
BARRED_WORDS = re.compile(
    r"\b(type|typing|typing_extensions|enum|Enum|IntEnum|StrEnum|Flag|IntFlag|Generic|Protocol|ABC|ABCMeta|namedtuple"
    r"|NamedTuple|TypedDict|TYPE_CHECKING|abstractmethod|register|mro|elements|open|input)\b"
    r"|dataclass|overload|contextmanager"
)


METHODS = set((
    "append clear copy count endswith extend find get index insert isalnum isalpha isdigit islower isspace isupper "
    "items join keys ljust lower lstrip partition pop remove replace reverse rfind rjust rpartition rsplit rstrip "
    "setdefault split splitlines startswith strip update upper values zfill bit_length"
).split())


def bound_names(tree):
    """The names of parameters and variables in functions, with their lines."""
    for function in ast.walk(tree):
        if isinstance(function, (ast.FunctionDef, ast.Lambda)):
            for node in ast.walk(function):
                if isinstance(node, ast.arg):
                    yield node.arg, node.lineno
                if isinstance(node, ast.Name) and isinstance(node.ctx, ast.Store):
                    yield node.id, node.lineno


def with_parents():
    """Every node of the package's code behind a name for messages, each with the node that it stands in."""
    for path in FILES:
        for parent in ast.walk(ast.parse(path.read_text())):
            for node in ast.iter_child_nodes(parent):
                yield f"{path.name}:{getattr(node, 'lineno', 0)}", node, parent


def called(node):
    """The name of what a call calls, a method's too; None of what is no call."""
    return getattr(node.func, "id", getattr(node.func, "attr", None)) if isinstance(node, ast.Call) else None


def nodes():
    """Every node of the package's code, with a name for messages."""
    for path in FILES:
        for node in ast.walk(ast.parse(path.read_text())):
            yield f"{path.name}:{getattr(node, 'lineno', 0)}", node


class LanguageTest(unittest.TestCase):
    def test_the_folder_has_nothing_but_files_of_code(self):
        others = [path.name for path in PACKAGE.iterdir() if path not in FILES and path.name != "__pycache__"]
        self.assertEqual(others, [])
        self.assertIn(PACKAGE / "__init__.py", FILES)

    def test_signs_and_sizes_of_files(self):
        for path in FILES:
            text = path.read_bytes().decode("ascii")
            with self.subTest(path.name):
                self.assertEqual([sign for sign in text if sign != "\n" and not " " <= sign <= "~"], [])
                self.assertLessEqual(len(text.splitlines()), 400)
                self.assertLessEqual(max(map(len, text.splitlines())), 120)

    def test_barred_words(self):
        for path in FILES:
            self.assertIsNone(BARRED_WORDS.search(path.read_text()), path.name)

    def test_functions_are_small_and_plain(self):
        for name, node in nodes():
            if isinstance(node, ast.FunctionDef):
                with self.subTest(name):
                    self.assertLessEqual(node.end_lineno - node.lineno + 1, 40)
                    self.assertEqual((node.decorator_list, node.args.vararg, node.args.kwarg), ([], None, None))

    def test_imports_are_from_the_package_alone(self):
        for name, node in nodes():
            if isinstance(node, ast.ImportFrom):
                self.assertTrue(node.level == 0 and node.module.startswith("matepoint."), name)

    def test_barred_statements_and_expressions(self):
        for name, node in nodes():
            self.assertNotIsInstance(node, BARRED_NODES, name)
            self.assertFalse(isinstance(node, ast.Constant) and isinstance(node.value, (float, complex)), name)

    def test_builtins(self):
        for name, node in nodes():
            if isinstance(node, ast.Name) and hasattr(builtins, node.id):
                self.assertIn(node.id, ALLOWED_BUILTINS, name)
                self.assertIsInstance(node.ctx, ast.Load, name)

    def test_names(self):
        for path in FILES:
            tree = ast.parse(path.read_text())
            taken = {alias.name for node in ast.walk(tree) if isinstance(node, ast.ImportFrom) for alias in node.names}
            taken |= {node.name for node in ast.walk(tree) if isinstance(node, ast.ClassDef)} | set(dir(builtins))
            for name, line in bound_names(tree):
                self.assertNotIn(name, taken, f"{path.name}:{line}")
                self.assertFalse(name.startswith("_"), f"{path.name}:{line}")

    def test_methods_and_attributes(self):
        trees = [ast.parse(path.read_text()) for path in FILES]
        classes = [node for tree in trees for node in ast.walk(tree) if isinstance(node, ast.ClassDef)]
        own = {part.name for node in classes for part in node.body if isinstance(part, ast.FunctionDef)}
        attributes = [(name, node) for name, node in nodes() if isinstance(node, ast.Attribute)]
        fields = {node.attr for name, node in attributes if isinstance(node.ctx, ast.Store)}
        self.assertEqual(own & fields, set())
        for name, node in attributes:
            self.assertIn(node.attr, own | fields | METHODS, name)

    def test_is_stands_beside_none_and_truths_alone(self):
        for name, node in nodes():
            if isinstance(node, ast.Compare) and isinstance(node.ops[0], (ast.Is, ast.IsNot)):
                self.assertTrue(isinstance(node.comparators[0], ast.Constant), name)
                self.assertIn(node.comparators[0].value, (None, True, False), name)

    def test_no_else_behind_a_loop(self):
        for name, node in nodes():
            if isinstance(node, (ast.For, ast.While)):
                self.assertEqual(node.orelse, [], name)

    def test_module_level(self):
        for path in FILES:
            bound = []
            for node in ast.parse(path.read_text()).body:
                plain = (ast.Expr, ast.ImportFrom, ast.FunctionDef, ast.ClassDef, ast.Assign)
                self.assertIsInstance(node, plain, path.name)
                bound += [alias.name for alias in node.names] if isinstance(node, ast.ImportFrom) else []
                bound += [node.name] if isinstance(node, (ast.FunctionDef, ast.ClassDef)) else []
                bound += [target.id for target in node.targets] if isinstance(node, ast.Assign) else []
            self.assertEqual(len(set(bound)), len(bound), path.name)

    def test_no_two_files_import_from_each_other(self):
        seen = {path.stem: {node.module.split(".")[1] for node in ast.parse(path.read_text()).body
                            if isinstance(node, ast.ImportFrom)} for path in FILES}
        while seen:
            free = [name for name, needed in seen.items() if not needed & set(seen)]
            self.assertNotEqual(free, [], seen)
            for name in free:
                del seen[name]

    def test_what_is_iterated_stands_where_it_is_iterated(self):
        takers = ("list", "tuple", "dict", "sorted", "sum", "any", "all", "enumerate", "zip", "min", "max")
        for name, node, parent in with_parents():
            if called(node) in ("zip", "enumerate", "reversed", "range", "items", "keys", "values"):
                looped = isinstance(parent, (ast.For, ast.comprehension)) and parent.iter is node
                self.assertTrue(looped or (called(parent) in takers and parent.args[0] is node), name)

    def test_sets_stand_where_they_are_counted_or_sorted(self):
        for name, node, parent in with_parents():
            self.assertNotIsInstance(node, ast.Set, name)
            if called(node) in ("set", "frozenset") or isinstance(node, ast.SetComp):
                self.assertIn(called(parent), ("len", "sorted"), name)

    def test_errors_are_raised_and_caught_by_name(self):
        for name, node in nodes():
            if isinstance(node, ast.Raise):
                self.assertTrue(isinstance(node.exc, ast.Call) and isinstance(node.exc.func, ast.Name), name)
            if isinstance(node, ast.ExceptHandler):
                self.assertIn(node.type.id, ("NoText", "MateError"), name)

    def test_no_texts_within_the_braces_of_texts(self):
        for name, node in nodes():
            if isinstance(node, ast.FormattedValue):
                self.assertIsNone(node.format_spec, name)
                inner = [one for one in ast.walk(node.value) if isinstance(one, (ast.JoinedStr, ast.Constant))]
                self.assertEqual([one for one in inner if isinstance(getattr(one, "value", ""), str)], [], name)

    def test_no_per_cent_in_strings(self):
        for name, node in nodes():
            if isinstance(node, ast.Constant) and isinstance(node.value, str):
                self.assertNotIn("%", node.value, name)


if __name__ == "__main__":
    unittest.main()
