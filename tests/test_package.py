"""The files of the package: their names, their imports, their form, and the interface's parameters."""

import ast
import builtins
import inspect
import pathlib
import re
import unittest

from nestlaid import board, boxes, desk, look, rules, settle, shares, styles, texts, tracks, trees, wording

FOLDER = pathlib.Path(__file__).resolve().parent.parent / "nestlaid"
MODULES = (
    "__init__", "across", "board", "boxes", "checks", "deeds", "desk", "down", "errors", "grids", "lines", "look",
    "lying", "reading", "reckon", "rules", "scenes", "settle", "shares", "sizes", "styles", "texts", "tracks", "trees",
    "wording", "writing",
)
FRAME = "wide=80, high=None"
BUILTINS = set(
    "len range enumerate zip min max sum abs sorted reversed int str bool bytes list tuple dict set frozenset "
    "isinstance ord repr any all divmod iter next super property staticmethod classmethod".split()
)
BARRED_WORDS = re.compile(
    r"\b(type|typing|typing_extensions|enum|Enum|IntEnum|StrEnum|Flag|IntFlag|Generic|Protocol|ABC|ABCMeta|"
    r"namedtuple|NamedTuple|TypedDict|TYPE_CHECKING|abstractmethod)\b|dataclass|overload|contextmanager"
)
FUNCTIONS = {
    shares: {
        "is_whole": "(thing)",
        "held": "(number, least, most)",
        "dealt": "(total, caps, weights)",
        "levelled": "(total, floors, weights)",
    },
    wording: {"longest": "(text)", "wished": "(text)", "wrapped": "(text, wide)"},
    styles: {
        "Style": "(*, wide=None, high=None, least_wide=None, least_high=None, most_wide=None, most_high=None, "
                 "grow=0, shrink=1, rims=(0, 0, 0, 0), stand=None)",
    },
    boxes: {
        "Words": "(name, text, *, style=None)",
        "Picture": "(name, across, down, *, style=None)",
        "Row": "(name, boxes, *, turn=False, gap=0, lane=0, pack='start', stands='stretch', style=None)",
        "Pile": "(name, boxes, *, gap=0, pack='start', stands='stretch', style=None)",
        "Grid": "(name, boxes, spots, *, columns, rows, gap=0, lane=0, stands='stretch', style=None)",
        "same_record": "(one, other)",
    },
    trees: {
        "names_of": "(tree)",
        "box_of": "(tree, name)",
        "holder_of": "(tree, name)",
        "put": "(tree, holder, at, box, *, spot=None)",
        "taken": "(tree, name)",
        "restyled": "(tree, name, style)",
        "retold": "(tree, name, text)",
    },
    tracks: {"track_sizes": "(tracks, asks, gap)"},
    rules: {
        "needs": f"(tree, name, word, *, {FRAME})",
        "reads": "(tree, name, word)",
        "by_rule": f"(tree, name, word, known, *, {FRAME})",
    },
    settle: {
        "asked": f"(tree, *, {FRAME})",
        "settled": f"(tree, *, {FRAME})",
        "longest_row": f"(tree, *, {FRAME})",
        "passes": f"(tree, begin, *, {FRAME})",
    },
    look: {
        "places": f"(tree, *, {FRAME})",
        "box_at": f"(tree, x, y, *, {FRAME})",
        "drawn": f"(tree, *, {FRAME}, fill='#')",
        "sticks_out": f"(tree, *, {FRAME})",
        "snapped": "(some, *, scale=(1, 1))",
    },
    board: {"Board": f"(tree, *, {FRAME})"},
    texts: {"show_tree": "(tree)", "read_tree": "(text)"},
    desk: {"Desk": "()"},
}
METHODS = {
    board.Board: {
        "tree": "(self)",
        "frame": "(self)",
        "place": "(self, name)",
        "places": "(self)",
        "number": "(self, name, word)",
        "put": "(self, holder, at, box, *, spot=None)",
        "take": "(self, name)",
        "restyle": "(self, name, style)",
        "retell": "(self, name, text)",
        "set_frame": f"(self, *, {FRAME})",
        "anew": "(self)",
        "together": "(self, deeds)",
        "undo": "(self)",
        "watch": "(self, watcher)",
    },
    desk.Desk: {"say": "(self, row)"},
}


class PackageTest(unittest.TestCase):
    def sources(self):
        return {path.stem: path.read_text("utf-8") for path in sorted(FOLDER.glob("*.py"))}

    def nodes(self, *kinds):
        for stem, source in self.sources().items():
            for node in ast.walk(ast.parse(source)):
                if isinstance(node, kinds):
                    yield stem, node

    def test_the_modules_and_nothing_else(self):
        found = [path.name for path in FOLDER.iterdir() if path.name != "__pycache__"]
        self.assertEqual(sorted(found), sorted([module + ".py" for module in MODULES]))

    def test_functions_and_classes_of_the_interface(self):
        for module, functions in FUNCTIONS.items():
            for name, told in functions.items():
                function = getattr(module, name)
                self.assertEqual(str(inspect.signature(function)), told)
                self.assertEqual(function.__module__, module.__name__)

    def test_methods_of_the_interface(self):
        for kind, methods in METHODS.items():
            for name, told in methods.items():
                # In the class itself, not only in one above it.
                self.assertEqual(str(inspect.signature(vars(kind)[name])), told)

    def test_signs_and_lines(self):
        for stem, source in self.sources().items():
            self.assertRegex(source, r"\A[\n -~]*\Z", stem)
            rows = source.split("\n")
            self.assertLessEqual(len(rows), 399, stem)
            self.assertLessEqual(max([len(row) for row in rows]), 120, stem)
            self.assertIsNone(BARRED_WORDS.search(source), stem)

    def test_functions_are_small_and_undecorated(self):
        for stem, node in self.nodes(ast.FunctionDef):
            self.assertLessEqual(node.end_lineno - node.lineno + 1, 40, (stem, node.name))
            self.assertEqual(node.decorator_list, [], (stem, node.name))

    def test_imports_from_the_package_alone(self):
        for stem, node in self.nodes(ast.Import, ast.ImportFrom):
            self.assertIsInstance(node, ast.ImportFrom, stem)
            self.assertRegex(node.module, r"\Anestlaid\.[a-z]+\Z", stem)
            self.assertEqual(node.level, 0, stem)

    def test_imports_name_the_file_that_defines_and_go_one_way(self):
        sources = self.sources()
        ahead = {stem: set() for stem in sources}
        for stem, node in self.nodes(ast.ImportFrom):
            where = node.module.split(".")[1]
            ahead[stem].add(where)
            tops = ast.parse(sources[where]).body
            defined = {top.name for top in tops if isinstance(top, (ast.FunctionDef, ast.ClassDef))}
            defined |= {top.targets[0].id for top in tops if isinstance(top, ast.Assign)}
            for alias in node.names:
                self.assertIn(alias.name, defined, (stem, where))
        while ahead:
            free = [stem for stem in ahead if not ahead[stem] & set(ahead)]
            self.assertNotEqual(free, [], "files import from each other")
            for stem in free:
                del ahead[stem]

    def test_no_name_is_a_method_here_and_an_attribute_there(self):
        methods, fields = set(), set()
        for stem, node in self.nodes(ast.ClassDef):
            methods |= {inner.name for inner in node.body if isinstance(inner, ast.FunctionDef)}
        for stem, node in self.nodes(ast.Attribute):
            if isinstance(node.ctx, ast.Store):
                fields.add(node.attr)
        self.assertEqual(methods & fields, set())

    def test_what_goes_with_an_eq_of_its_own(self):
        for stem, node in self.nodes(ast.GeneratorExp, ast.Yield, ast.YieldFrom):
            self.fail((stem, node.lineno))
        for stem, node in self.nodes(ast.FunctionDef):
            if node.name in ("__eq__", "__repr__"):
                changes = (ast.Assign, ast.AugAssign, ast.Delete)
                self.assertFalse([inner for inner in ast.walk(node) if isinstance(inner, changes)], stem)

    def test_is_with_none_and_truths_alone(self):
        for stem, node in self.nodes(ast.Compare):
            for sign, right in zip(node.ops, node.comparators):
                if isinstance(sign, (ast.Is, ast.IsNot)):
                    self.assertIsInstance(right, ast.Constant, (stem, node.lineno))
                    self.assertIn(repr(right.value), ("None", "True", "False"), (stem, node.lineno))

    def test_no_floats_no_division_no_percent_sign(self):
        for stem, node in self.nodes(ast.Constant, ast.Div):
            self.assertNotIsInstance(node, ast.Div, stem)
            if isinstance(node, ast.Constant):
                self.assertNotIsInstance(node.value, (float, complex), stem)
                self.assertFalse(isinstance(node.value, str) and "\x25" in node.value, stem)

    def test_names_in_functions_are_no_builtins_imports_or_classes(self):
        for stem, source in self.sources().items():
            taken = set(dir(builtins))
            for node in ast.parse(source).body:
                if isinstance(node, ast.ImportFrom):
                    taken |= {alias.asname or alias.name for alias in node.names}
                elif isinstance(node, ast.ClassDef):
                    taken.add(node.name)
            for node in ast.walk(ast.parse(source)):
                if isinstance(node, ast.arg):
                    self.assertNotIn(node.arg, taken, (stem, node.lineno))
                elif isinstance(node, ast.Name) and isinstance(node.ctx, ast.Store):
                    self.assertNotIn(node.id, taken, (stem, node.lineno))

    def test_a_field_that_is_read_is_set_by_a_class(self):
        known = set(dir(str)) | set(dir(list)) | set(dir(dict)) | {"__init__"}
        for stem, node in self.nodes(ast.ClassDef):
            known |= {inner.name for inner in node.body if isinstance(inner, ast.FunctionDef)}
        for stem, node in self.nodes(ast.Attribute):
            if isinstance(node.ctx, ast.Store):
                known.add(node.attr)
        for stem, node in self.nodes(ast.Attribute):
            self.assertIn(node.attr, known, (stem, node.lineno))

    def test_no_statement_that_is_left_out(self):
        barred = (ast.Global, ast.AsyncFunctionDef, ast.Await, ast.Lambda, ast.Match, ast.NamedExpr, ast.Starred)
        for stem, node in self.nodes(*barred):
            # A star stands in a tuple alone.
            self.assertIsInstance(node, ast.Starred, (stem, node.lineno))
        for stem, node in self.nodes(ast.Call):
            self.assertFalse([inner for inner in node.args if isinstance(inner, ast.Starred)], (stem, node.lineno))

    def test_handlers_name_refusals_alone(self):
        for stem, node in self.nodes(ast.ExceptHandler):
            self.assertRegex(ast.unparse(node.type), r"\A(No[A-Z][a-z]+|Ring|Busy|NestError)\Z", (stem, node.lineno))

    def test_no_other_builtin(self):
        others = {name for name in dir(builtins) if name.islower()} - BUILTINS
        for stem, node in self.nodes(ast.Name):
            self.assertNotIn(node.id, others, stem)
            self.assertFalse(node.id.startswith("_"), (stem, node.id))


if __name__ == "__main__":
    unittest.main()
