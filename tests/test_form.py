"""The package's own files: they reach nothing outside, keep nothing, and stay small and plain."""

import ast
import builtins
import re
import unittest
from pathlib import Path

PACKAGE = Path(__file__).resolve().parent.parent / "tillcoins"
FILES = sorted(PACKAGE.glob("*.py"))
ALLOWED_NAMES = set("""
    len range enumerate zip min max sum abs sorted reversed int str bool list tuple dict set frozenset
    isinstance ord repr any all divmod Exception ValueError TypeError KeyError IndexError LookupError
    ZeroDivisionError ArithmeticError OverflowError RuntimeError NotImplementedError AttributeError StopIteration
""".split())
WORDS_LEFT_OUT = re.compile(
    r"\b(type|typing|typing_extensions|enum|Enum|IntEnum|StrEnum|Flag|IntFlag|Generic|Protocol|ABC|ABCMeta"
    r"|namedtuple|NamedTuple|TypedDict|TYPE_CHECKING|abstractmethod)\b|dataclass|overload|contextmanager")
ALLOWED_METHODS = set("""
    append clear copy count endswith extend find get index insert isalnum isalpha isdigit islower isspace isupper
    items join keys ljust lower lstrip partition pop remove replace reverse rfind rjust rpartition rsplit rstrip
    setdefault split splitlines startswith strip update upper values zfill bit_length
""".split())
STATEMENTS_LEFT_OUT = (
    ast.With, ast.Match, ast.Delete, ast.Global, ast.Nonlocal, ast.Assert, ast.Yield, ast.YieldFrom, ast.Await,
    ast.AsyncFunctionDef, ast.SetComp, ast.DictComp, ast.GeneratorExp, ast.NamedExpr, ast.Starred, ast.Import,
    ast.Div,
)


class FormTest(unittest.TestCase):
    def test_only_plain_files_lie_in_the_package(self):
        names = [path.name for path in PACKAGE.iterdir() if path.name != "__pycache__"]
        self.assertIn("__init__.py", names)
        for name in names:
            self.assertRegex(name, r"\A(__init__|[a-z][a-z0-9_]*)\.py\Z")

    def test_only_the_package_itself_is_drawn_from(self):
        for path, node in self.nodes(ast.ImportFrom):
            self.assertEqual(node.level, 0, path.name)
            self.assertRegex(node.module, r"\Atillcoins\.[a-z_]+\Z", path.name)

    def test_of_pythons_own_names_only_those_that_reach_nothing(self):
        for path, node in self.nodes(ast.Name):
            if hasattr(builtins, node.id):
                self.assertIn(node.id, ALLOWED_NAMES, f"{path.name}:{node.lineno}")

    def test_no_form_that_is_left_out(self):
        for path, node in self.nodes(STATEMENTS_LEFT_OUT):
            self.fail(f"{path.name}: {ast.dump(node)}")

    def test_of_pythons_own_methods_only_those_that_are_listed(self):
        for path, node in self.nodes(ast.Attribute):
            self.assertIn(node.attr, ALLOWED_METHODS, f"{path.name}:{node.lineno}")

    def test_names_are_plain_and_none_hides_one_of_pythons_own(self):
        for path, node in self.nodes((ast.Name, ast.arg, ast.FunctionDef, ast.ClassDef)):
            name = getattr(node, "id", None) or getattr(node, "arg", None) or getattr(node, "name", None)
            place = f"{path.name}:{node.lineno}"
            self.assertRegex(name, r"\A[A-Za-z][A-Za-z0-9_]*\Z", place)
            if not isinstance(node, ast.Name) or isinstance(node.ctx, ast.Store):
                self.assertFalse(hasattr(builtins, name), place)

    def test_one_target_in_an_assignment(self):
        for path, node in self.nodes(ast.Assign):
            self.assertEqual(len(node.targets), 1, f"{path.name}:{node.lineno}")

    def test_no_two_files_draw_from_one_another(self):
        drawn = {}
        for path, node in self.nodes(ast.ImportFrom):
            drawn.setdefault(path.stem, set()).add(node.module.rpartition(".")[2])
        while drawn:
            ready = [name for name, others in drawn.items() if not others & drawn.keys()]
            self.assertTrue(ready, sorted(drawn))
            for name in ready:
                drawn.pop(name)

    def test_no_float(self):
        for path, node in self.nodes(ast.Constant):
            self.assertNotIsInstance(node.value, (float, complex, bytes), f"{path.name}:{node.lineno}")

    def test_nothing_at_a_files_top_could_keep_a_value(self):
        for path in FILES:
            for statement in ast.parse(path.read_text()).body:
                if isinstance(statement, ast.Assign):
                    place = f"{path.name}:{statement.lineno}"
                    self.assertIsInstance(statement.value, (ast.Constant, ast.Tuple), place)

    def test_size(self):
        for path, node in self.nodes(ast.FunctionDef):
            self.assertLessEqual(node.end_lineno - node.lineno + 1, 40, f"{path.name}: {node.name}")
            self.assertEqual(node.decorator_list, [])
        for path in FILES:
            lines = path.read_text().split("\n")
            self.assertLessEqual(len(lines), 400, path.name)
            self.assertLessEqual(max(len(line) for line in lines), 120, path.name)

    def test_signs_and_words(self):
        for path in FILES:
            text = path.read_bytes().decode("ascii")
            self.assertRegex(text, r"\A[ -~\n]*\Z", path.name)
            self.assertIsNone(WORDS_LEFT_OUT.search(text), path.name)

    def nodes(self, kinds):
        self.assertTrue(FILES)
        for path in FILES:
            for node in ast.walk(ast.parse(path.read_text())):
                if isinstance(node, kinds):
                    yield path, node


if __name__ == "__main__":
    unittest.main()
