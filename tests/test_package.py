"""The files of the package: their names, their imports, their form, and the interface's parameters."""

import ast
import builtins
import inspect
import pathlib
import re
import unittest

from nestlaid import shares, wording

FOLDER = pathlib.Path(__file__).resolve().parent.parent / "nestlaid"
MODULES = ("__init__", "errors", "shares", "wording")
BUILTINS = set(
    "len range enumerate zip min max sum abs sorted reversed int str bool bytes list tuple dict set frozenset "
    "isinstance ord repr any all divmod iter next super property staticmethod classmethod".split()
)
BARRED_WORDS = re.compile(
    r"\b(type|typing|typing_extensions|enum|Enum|IntEnum|StrEnum|Flag|IntFlag|Generic|Protocol|ABC|ABCMeta|"
    r"namedtuple|NamedTuple|TypedDict|TYPE_CHECKING|abstractmethod)\b|dataclass|overload|contextmanager"
)
FUNCTIONS = {
    shares: {
        "is_whole": "(thing)",
        "held": "(number, least, most)",
        "dealt": "(total, caps, weights)",
        "levelled": "(total, floors, weights)",
    },
    wording: {"longest": "(text)", "wished": "(text)", "wrapped": "(text, wide)"},
}


class PackageTest(unittest.TestCase):
    def sources(self):
        return {path.stem: path.read_text("utf-8") for path in sorted(FOLDER.glob("*.py"))}

    def nodes(self, *kinds):
        for stem, source in self.sources().items():
            for node in ast.walk(ast.parse(source)):
                if isinstance(node, kinds):
                    yield stem, node

    def test_the_modules_and_nothing_else(self):
        found = [path.name for path in FOLDER.iterdir() if path.name != "__pycache__"]
        self.assertEqual(sorted(found), sorted([module + ".py" for module in MODULES]))

    def test_functions_of_the_interface(self):
        for module, functions in FUNCTIONS.items():
            for name, told in functions.items():
                function = getattr(module, name)
                self.assertEqual(str(inspect.signature(function)), told)
                self.assertEqual(function.__module__, module.__name__)

    def test_signs_and_lines(self):
        for stem, source in self.sources().items():
            self.assertRegex(source, r"\A[\n -~]*\Z", stem)
            rows = source.split("\n")
            self.assertLessEqual(len(rows), 399, stem)
            self.assertLessEqual(max([len(row) for row in rows]), 120, stem)
            self.assertIsNone(BARRED_WORDS.search(source), stem)

    def test_functions_are_small_and_undecorated(self):
        for stem, node in self.nodes(ast.FunctionDef):
            self.assertLessEqual(node.end_lineno - node.lineno + 1, 40, (stem, node.name))
            self.assertEqual(node.decorator_list, [], (stem, node.name))

    def test_imports_from_the_package_alone(self):
        for stem, node in self.nodes(ast.Import, ast.ImportFrom):
            self.assertIsInstance(node, ast.ImportFrom, stem)
            self.assertRegex(node.module, r"\Anestlaid\.[a-z]+\Z", stem)
            self.assertEqual(node.level, 0, stem)

    def test_no_floats_no_division_no_percent_sign(self):
        for stem, node in self.nodes(ast.Constant, ast.Div):
            self.assertNotIsInstance(node, ast.Div, stem)
            if isinstance(node, ast.Constant):
                self.assertNotIsInstance(node.value, (float, complex), stem)
                self.assertFalse(isinstance(node.value, str) and "\x25" in node.value, stem)

    def test_no_other_builtin(self):
        others = {name for name in dir(builtins) if name.islower()} - BUILTINS
        for stem, node in self.nodes(ast.Name):
            self.assertNotIn(node.id, others, stem)
            self.assertFalse(node.id.startswith("_"), (stem, node.id))


if __name__ == "__main__":
    unittest.main()
