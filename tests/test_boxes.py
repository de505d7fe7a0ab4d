import itertools
import unittest

from helper import Hostile, no_counts, no_lists, no_texts, odd_things, refused
from nestlaid.boxes import Box, Grid, Picture, Pile, Row, Words, same_record
from nestlaid.errors import NoBox, NoName, NoNumber, NoPack, NoSpot, NoStand, NoStyle, NoText, NoTrack, NoTruth
from nestlaid.styles import Style

BIG = 10 ** 12 - 1
KINDS = (Words, Picture, Row, Pile, Grid)
HOLDERS = (Row, Pile, Grid)
PACKS = ("start", "end", "middle", "between")
STANDS = ("start", "end", "middle", "stretch", "base")
STYLE = Style(wide=4, stand="end")
A, B, C = Words("a", "the cat"), Picture("b", 2, 3), Row("c", [Words("d", "")])

# What each kind is made of, in the order in which it is asked; and what is told by place.
ORDER = {
    Words: ("name", "text", "style"),
    Picture: ("name", "across", "down", "style"),
    Row: ("name", "boxes", "turn", "gap", "lane", "pack", "stands", "style"),
    Pile: ("name", "boxes", "gap", "pack", "stands", "style"),
    Grid: ("name", "boxes", "columns", "rows", "spots", "gap", "lane", "stands", "style"),
}
BY_PLACE = {
    Words: ("name", "text"), Picture: ("name", "across", "down"), Row: ("name", "boxes"), Pile: ("name", "boxes"),
    Grid: ("name", "boxes", "spots"),
}
DEFAULTS = {"turn": False, "gap": 0, "lane": 0, "pack": "start", "stands": "stretch", "style": Style()}


def told_of(kind):
    """All that this kind is made of, none of it a default; its lists are new ones."""
    told = {
        "name": "abc", "text": "the cat\nsat", "style": STYLE, "across": 4, "down": 3, "boxes": [A, B, C],
        "turn": True, "gap": 2, "lane": 1, "pack": "between", "stands": "middle",
        "spots": [(0, 0, 2, 1), (2, 0, 1, 2), (0, 1, 1, 1)],
        "columns": [10, "fit", ("share", 2)], "rows": ["fit", ("share", 1)],
    }
    return {name: told[name] for name in ORDER[kind]}


def other_of(kind):
    """Something else for each thing that this kind is made of, with which it is still a box."""
    other = {
        "name": "abd", "text": "the cat sat", "style": Style(wide=4), "across": 5, "down": 4,
        "boxes": [A, B, Words("c", "")], "turn": False, "gap": 3, "lane": 0, "pack": "end", "stands": "base",
        "spots": [(0, 0, 2, 1), (2, 0, 1, 2), (1, 1, 1, 1)],
        "columns": [10, "fit", ("share", 3)], "rows": [0, ("share", 1)],
    }
    return {name: other[name] for name in ORDER[kind]}


def fields_of(box):
    """All fields of a box, with those of the boxes in it in their place."""
    kind = type(box)
    fields = {name: getattr(box, name) for name in ORDER[kind]}
    if kind in HOLDERS:
        fields["boxes"] = tuple([fields_of(inner) for inner in box.boxes])
    return kind.__name__, fields


def as_field(told):
    return tuple(told) if type(told) is list else told


def no_names():
    near = ["", "abcdefghi", "A", "aB", "a1", "a b", " a", "a ", "a\n", "\n", "a-b", "_", "1", "\u00e4", "a" * 999]
    return [x for x in odd_things() if type(x) is not str] + near


def no_styles():
    return [x for x in odd_things() if x is not None] + ["Style()", Style, {"wide": 3}, A, [Style()]]


def no_boxes():
    wrongs = no_lists() + [A, (A, B), [A, None], [None, A], [[A]], ["a"], [Words], [A, STYLE], [Hostile()], {"a": A}]
    return wrongs + [[A, thing] for thing in odd_things()]


def no_packs():
    return odd_things() + ["Start", "start ", "stretch", "base", "b", ("start",), ["start"]]


def no_stands():
    return odd_things() + ["Start", "start ", "between", "mid", "s", ("start",), ["start"]]


def no_tracks():
    """What is no list of tracks."""
    wrongs = no_lists() + [[], (1, "fit"), ("fit",), "fit", 3, ("share", 1), {"fit": 1}]
    for wrong in [*no_counts(), "Fit", "fit ", "", "share", "3", ["fit"], ["share", 1], ("share",), ("share", 1, 1)]:
        wrongs += [[wrong], [3, wrong], [wrong, "fit", ("share", 1)]]
    wrongs += [[("share", k)] for k in [*no_counts(), 0, "1", None]]
    return wrongs + [[(word, 1)] for word in [*odd_things(), "Share", "part", "fit", "as", ""]]


def wrongs_of(name):
    """What is refused of this thing, with the class."""
    return {
        "name": (NoName, no_names()),
        "text": (NoText, no_texts()),
        "style": (NoStyle, no_styles()),
        "across": (NoNumber, [*no_counts(), 0]),
        "down": (NoNumber, [*no_counts(), 0]),
        "boxes": (NoBox, no_boxes()),
        "turn": (NoTruth, [x for x in odd_things() if type(x) is not bool] + ["True", 0, 1]),
        "gap": (NoNumber, no_counts()),
        "lane": (NoNumber, no_counts()),
        "pack": (NoPack, no_packs()),
        "stands": (NoStand, no_stands()),
        "columns": (NoTrack, no_tracks()),
        "rows": (NoTrack, no_tracks()),
        "spots": (NoSpot, no_lists()),
    }[name]


class BoxCase(unittest.TestCase):
    def check_box(self, box, kind, told):
        """The box is of the kind, with the fields as told and the defaults for all others."""
        self.assertIs(type(box), kind)
        for name in ORDER[kind]:
            field, right = getattr(box, name), as_field({**DEFAULTS, **told}[name])
            self.assertIs(type(field), type(right), name)
            self.assertEqual(field, right, name)

    def check_alike(self, one, other, right):
        self.assertIs(one == other, right)
        self.assertIs(other == one, right)
        self.assertIs(one != other, not right)
        self.assertIs(other != one, not right)


class KindsTest(BoxCase):
    def test_all_stand_under_box_and_none_under_another_one(self):
        for one, other in itertools.product(KINDS, repeat=2):
            self.assertTrue(issubclass(one, Box))
            self.assertIs(issubclass(one, other), one is other)

    def test_all_told_by_name(self):
        for kind in KINDS:
            told = told_of(kind)
            self.check_box(kind(**told), kind, told)
            self.check_box(kind(**dict(reversed(list(told.items())))), kind, told)

    def test_by_place_what_may_be(self):
        for kind in KINDS:
            told = told_of(kind)
            places = [told[name] for name in BY_PLACE[kind]]
            named = {name: told[name] for name in told if name not in BY_PLACE[kind]}
            self.check_box(kind(*places, **named), kind, told)
            with self.assertRaises(TypeError):
                kind(*places, told["style"])

    def test_defaults_left_out(self):
        for kind in KINDS:
            told = {name: thing for name, thing in told_of(kind).items() if name not in DEFAULTS}
            self.check_box(kind(**told), kind, told)

    def test_one_default_left_out(self):
        for kind in KINDS:
            for left_out in DEFAULTS:
                told = {name: thing for name, thing in told_of(kind).items() if name != left_out}
                self.check_box(kind(**told), kind, told)

    def test_plain_ones(self):
        self.assertEqual((Words("a", "b").name, Words("a", "b").text), ("a", "b"))
        self.assertEqual((Picture("a", 2, 3).across, Picture("a", 2, 3).down), (2, 3))
        self.assertEqual(Row("a", [A]).boxes, (A,))
        self.assertEqual(Pile("a", [A, B]).boxes, (A, B))
        grid = Grid("a", [A], [(0, 0, 1, 1)], columns=[3], rows=["fit"])
        self.assertEqual((grid.boxes, grid.spots, grid.columns, grid.rows), ((A,), ((0, 0, 1, 1),), (3,), ("fit",)))

    def test_a_style_of_none_is_the_plain_one(self):
        for kind in KINDS:
            box = kind(**{**told_of(kind), "style": None})
            self.assertIs(type(box.style), Style)
            self.assertEqual(box.style, Style())

    def test_holders_without_boxes(self):
        self.assertEqual(Row("a", []).boxes, ())
        self.assertEqual(Pile("a", []).boxes, ())
        grid = Grid("a", [], [], columns=[0], rows=[0])
        self.assertEqual((grid.boxes, grid.spots), ((), ()))

    def test_names(self):
        for name in ("a", "z", "abcdefgh", "stuvwxyz", "as", "part"):
            for kind in KINDS:
                self.assertEqual(kind(**{**told_of(kind), "name": name}).name, name)

    def test_texts(self):
        for text in ("", " ", "\n", "a\n\nb ", "~!# \"(){}[]<>/\\ 0-9,.;: _^`'$&*+=?@", "x" * 400, "x " * 250):
            self.assertEqual(Words("a", text).text, text)

    def test_numbers_at_their_bounds(self):
        for across, down in ((1, 1), (1, BIG), (BIG, 1), (10 ** 15, 10 ** 15)):
            self.check_box(Picture("a", across, down), Picture, {"name": "a", "across": across, "down": down})
        for gap, lane in ((0, 1), (1, 0), (BIG, 10 ** 15)):
            for kind in (Row, Grid):
                told = {**told_of(kind), "gap": gap, "lane": lane}
                self.check_box(kind(**told), kind, told)
            self.assertEqual(Pile("a", [], gap=gap).gap, gap)

    def test_words_of_each_kind(self):
        for pack in PACKS:
            self.assertEqual(Row("a", [], pack=pack).pack, pack)
            self.assertEqual(Pile("a", [], pack=pack).pack, pack)
        for stands in STANDS:
            for kind in HOLDERS:
                self.assertEqual(kind(**{**told_of(kind), "stands": stands}).stands, stands)

    def test_a_box_in_several_boxes_and_twice_in_one(self):
        self.assertEqual(Row("x", [A, A]).boxes, (A, A))
        self.assertEqual(Pile("y", [A, Row("x", [A])]).boxes, (A, Row("x", [A])))

    def test_limits_and_somewhat_beyond(self):
        for many in (20, 21, 45):
            boxes = [Words("a", str(at)) for at in range(many)]
            self.assertEqual([box.text for box in Row("r", boxes).boxes], [box.text for box in boxes])
            self.assertEqual(len(Pile("r", boxes).boxes), many)
        for many in (10, 11, 25):
            tracks = ["fit", 3, ("share", 2), 0, ("share", BIG)] * 5
            spots = [(at, at, 1, many - at) for at in range(many)]
            grid = Grid("g", [A] * many, spots, columns=tracks[:many], rows=tracks[:many])
            self.assertEqual(grid.spots, tuple(spots))
            self.assertEqual(grid.columns, tuple(tracks[:many]))
        deep = A
        for at in range(40):
            deep = Row("r", [deep])
        self.check_alike(deep, Row("r", [deep.boxes[0]]), True)


class RefusedTest(BoxCase):
    def check_refused(self, error, kind, told):
        """The refusal, and nothing that was handed in is changed by it."""
        lists = [(thing, list(thing)) for thing in told.values() if type(thing) is list]
        refused(self, error, kind, **told)
        for thing, before in lists:
            self.assertEqual([id(inner) for inner in thing], [id(inner) for inner in before])

    def test_each_thing(self):
        for kind in KINDS:
            for name in ORDER[kind]:
                error, wrongs = wrongs_of(name)
                for wrong in wrongs:
                    self.check_refused(error, kind, {**told_of(kind), name: wrong})

    def test_the_first_in_order_goes_first(self):
        for kind in KINDS:
            for first, second in itertools.combinations(ORDER[kind], 2):
                told = {**told_of(kind), first: Hostile(), second: Hostile()}
                self.check_refused(wrongs_of(first)[0], kind, told)
            for at in range(len(ORDER[kind])):
                wrong = {name: Hostile() for name in ORDER[kind][at:]}
                self.check_refused(wrongs_of(ORDER[kind][at])[0], kind, {**told_of(kind), **wrong})

    def test_spots_that_do_not_fit_go_behind_boxes_and_tracks(self):
        told = {**told_of(Grid), "spots": [(9, 9, 1, 1)]}
        self.check_refused(NoBox, Grid, {**told, "boxes": [None]})
        self.check_refused(NoTrack, Grid, {**told, "columns": []})
        self.check_refused(NoTrack, Grid, {**told, "rows": []})
        self.check_refused(NoSpot, Grid, {**told, "gap": -1, "lane": -1, "stands": None, "style": 1})

    def test_no_text_tells_the_line_0(self):
        self.assertEqual(refused(self, NoText, Words, "a", None).line, 0)

    def test_by_place(self):
        refused(self, NoName, Words, "A", "")
        refused(self, NoText, Words, "a", 3)
        refused(self, NoNumber, Picture, "a", 0, 1)
        refused(self, NoNumber, Picture, "a", 1, 0)
        refused(self, NoNumber, Picture, "a", True, 1)
        refused(self, NoBox, Row, "a", (A, B))
        refused(self, NoBox, Pile, "a", None)
        refused(self, NoSpot, Grid, "a", [A], ((0, 0, 1, 1),), columns=[1], rows=[1])


class TracksTest(BoxCase):
    def test_each_kind_of_track(self):
        for track in (0, 1, BIG, 10 ** 15, "fit", ("share", 1), ("share", 7), ("share", BIG)):
            grid = Grid("a", [], [], columns=[track], rows=[3])
            self.assertEqual(grid.columns, (track,))
            grid = Grid("a", [], [], columns=["fit"], rows=[track, track])
            self.assertEqual(grid.rows, (track, track))

    def test_a_wrong_track_behind_right_ones(self):
        for wrong in (None, True, -1, "fits", ("share", 0), ("share", True), ("share", "1"), ["share", 1], Hostile()):
            refused(self, NoTrack, Grid, "a", [], [], columns=[1, "fit", ("share", 1), wrong], rows=[1])
            refused(self, NoTrack, Grid, "a", [], [], columns=[1], rows=[1, "fit", ("share", 1), wrong])


class SpotsTest(BoxCase):
    def grid(self, spots, columns=3, rows=2, many=None):
        boxes = [A] * (len(spots) if many is None else many)
        return Grid("g", boxes, spots, columns=["fit"] * columns, rows=[1] * rows)

    def test_all_of_one_box(self):
        whole = itertools.product(range(-1, 5), repeat=4)
        for column, row, columns, rows in whole:
            spot = (column, row, columns, rows)
            inside = column >= 0 and row >= 0 and columns >= 1 and rows >= 1
            if inside and column + columns <= 3 and row + rows <= 2:
                self.assertEqual(self.grid([spot]).spots, (spot,))
            else:
                refused(self, NoSpot, self.grid, [spot])

    def test_all_of_two_boxes(self):
        spots = [
            spot for spot in itertools.product(range(3), range(3), range(1, 4), range(1, 4))
            if spot[0] + spot[2] <= 3 and spot[1] + spot[3] <= 3
        ]
        for one, other in itertools.product(spots, repeat=2):
            cells = [
                {(x, y) for x in range(spot[0], spot[0] + spot[2]) for y in range(spot[1], spot[1] + spot[3])}
                for spot in (one, other)
            ]
            if cells[0] & cells[1]:
                refused(self, NoSpot, self.grid, [one, other], 3, 3)
            else:
                self.assertEqual(self.grid([one, other], 3, 3).spots, (one, other))

    def test_three_boxes_any_two_upon_one_another(self):
        for order in itertools.permutations([(0, 0, 2, 1), (1, 0, 1, 2), (2, 1, 1, 1)]):
            refused(self, NoSpot, self.grid, list(order))
        for order in itertools.permutations([(0, 0, 1, 2), (1, 0, 2, 1), (1, 1, 2, 1)]):
            self.assertEqual(self.grid(list(order)).spots, order)

    def test_the_same_column_or_the_same_row_alone(self):
        self.assertEqual(len(self.grid([(0, 0, 1, 1), (0, 1, 1, 1)]).spots), 2)
        self.assertEqual(len(self.grid([(0, 0, 1, 1), (1, 0, 1, 1)]).spots), 2)

    def test_columns_and_rows_are_not_taken_for_one_another(self):
        self.assertEqual(len(self.grid([(0, 0, 3, 2)]).spots), 1)
        refused(self, NoSpot, self.grid, [(0, 0, 2, 3)])
        refused(self, NoSpot, self.grid, [(0, 2, 1, 1)])
        self.assertEqual(len(self.grid([(2, 0, 1, 1)]).spots), 1)

    def test_too_many_and_too_few(self):
        spots = [(0, 0, 1, 1), (1, 0, 1, 1), (2, 0, 1, 1)]
        for many, told in itertools.product(range(4), repeat=2):
            if many == told:
                self.assertEqual(self.grid(spots[:told], many=many).spots, tuple(spots[:told]))
            else:
                refused(self, NoSpot, self.grid, spots[:told], many=many)

    def test_wrong_kinds(self):
        for wrong in [*odd_things(), (0, 0, 1), (0, 0, 1, 1, 1), [0, 0, 1, 1], "0011", ((0, 0), (1, 1))]:
            refused(self, NoSpot, self.grid, [wrong])
            refused(self, NoSpot, self.grid, [(2, 1, 1, 1), wrong])
        for at in range(4):
            for wrong in [*no_counts(), 10 ** 15]:
                spot = [0, 0, 1, 1]
                spot[at] = wrong
                refused(self, NoSpot, self.grid, [tuple(spot)])

    def test_what_is_no_list(self):
        for wrong in [*no_lists(), ((0, 0, 1, 1),), (0, 0, 1, 1), {0: (0, 0, 1, 1)}]:
            refused(self, NoSpot, Grid, "g", [A], wrong, columns=[1], rows=[1])
            refused(self, NoSpot, Grid, "g", [], wrong, columns=[1], rows=[1])


class NothingSharedTest(BoxCase):
    def test_lists_stand_as_tuples(self):
        for kind in HOLDERS:
            box = kind(**told_of(kind))
            for name in ORDER[kind]:
                self.assertIsNot(type(getattr(box, name)), list)

    def test_lists_that_are_changed_later_change_nothing(self):
        for kind in HOLDERS:
            told = told_of(kind)
            box, before = kind(**told), fields_of(kind(**told))
            for thing in told.values():
                if type(thing) is list:
                    thing[0] = "changed"
                    thing.append("changed")
            self.assertEqual(fields_of(box), before)
            for thing in told.values():
                if type(thing) is list:
                    thing.clear()
            self.assertEqual(fields_of(box), before)
            self.check_alike(box, kind(**told_of(kind)), True)

    def test_nothing_handed_in_is_changed(self):
        for kind in KINDS:
            told, again = told_of(kind), told_of(kind)
            kind(**told)
            self.assertEqual(told, again)
            self.assertEqual(repr(STYLE), "Style(wide=4, stand='end')")

    def test_plain_styles_of_two_boxes_are_not_changed_by_one_another(self):
        one, other = Words("a", ""), Words("b", "")
        self.assertEqual(one.style, other.style)


class AlikeTest(BoxCase):
    def test_alike(self):
        for kind in KINDS:
            box = kind(**told_of(kind))
            self.check_alike(box, box, True)
            self.check_alike(box, kind(**told_of(kind)), True)

    def test_any_one_thing_tells_two_apart(self):
        for kind in KINDS:
            box = kind(**told_of(kind))
            for name, other in other_of(kind).items():
                self.check_alike(box, kind(**{**told_of(kind), name: other}), False)

    def test_a_default_told_and_left_out(self):
        for kind in KINDS:
            told = {name: thing for name, thing in told_of(kind).items() if name not in DEFAULTS}
            given = {name: thing for name, thing in DEFAULTS.items() if name in ORDER[kind]}
            self.check_alike(kind(**told), kind(**told, **given), True)

    def test_of_another_kind(self):
        boxes = [Words("a", ""), Picture("a", 1, 1), Row("a", []), Pile("a", []), Grid("a", [], [], columns=[1], rows=[1])]
        for (at, one), (place, other) in itertools.product(enumerate(boxes), repeat=2):
            self.check_alike(one, other, at == place)
        self.check_alike(Row("a", [A]), Pile("a", [A]), False)

    def test_boxes_in_them(self):
        for kind in (Row, Pile):
            self.check_alike(kind("x", [A, B]), kind("x", [Words("a", "the cat"), Picture("b", 2, 3)]), True)
            self.check_alike(kind("x", [A, B]), kind("x", [B, A]), False)
            self.check_alike(kind("x", [A, B]), kind("x", [A]), False)
            self.check_alike(kind("x", [A, B]), kind("x", [A, B, B]), False)
            self.check_alike(kind("x", []), kind("x", [A]), False)
            self.check_alike(kind("x", [A]), kind("x", [Words("a", "the dog")]), False)

    def test_boxes_deep_in_them(self):
        def deep(text):
            return Row("x", [Pile("y", [Grid("z", [Words("a", text)], [(0, 0, 1, 1)], columns=[1], rows=[1])]), B])

        self.check_alike(deep("b"), deep("b"), True)
        self.check_alike(deep("b"), deep("c"), False)

    def test_what_is_no_box(self):
        class Yes:
            def __eq__(self, other):
                return True

        for kind in KINDS:
            box = kind(**told_of(kind))
            for thing in [*odd_things(), "abc", told_of(kind), STYLE, kind, Yes()]:
                self.assertIs(box == thing, False)
                self.assertIs(box != thing, True)


class SameRecordTest(BoxCase):
    def check_same(self, one, other, right):
        self.assertIs(same_record(one, other), right)
        self.assertIs(same_record(other, one), right)
        self.assertIs(same_record(one=other, other=one), right)

    def test_alike(self):
        for kind in KINDS:
            self.check_same(kind(**told_of(kind)), kind(**told_of(kind)), True)

    def test_any_one_thing_but_what_is_in_the_boxes_in_it(self):
        for kind in KINDS:
            box = kind(**told_of(kind))
            for name, other in other_of(kind).items():
                # The other boxes have the same names.
                self.check_same(box, kind(**{**told_of(kind), name: other}), name == "boxes")

    def test_names_of_the_boxes_in_it(self):
        for kind in (Row, Pile):
            self.check_same(kind("x", [A, B]), kind("x", [Row("a", []), Words("b", "")]), True)
            self.check_same(kind("x", [A, B]), kind("x", [B, A]), False)
            self.check_same(kind("x", [A, B]), kind("x", [A]), False)
            self.check_same(kind("x", [A, B]), kind("x", [A, B, C]), False)
            self.check_same(kind("x", [A]), kind("x", [Words("e", "the cat")]), False)

    def test_names_of_the_boxes_in_a_grid(self):
        def grid(boxes):
            return Grid("x", boxes, [(0, 0, 1, 1), (1, 0, 1, 1)], columns=[1, 1], rows=[1])

        self.check_same(grid([A, B]), grid([Row("a", []), Words("b", "")]), True)
        self.check_same(grid([A, B]), grid([B, A]), False)
        self.check_same(grid([A, B]), grid([A, C]), False)

    def test_names_deeper_do_not_count(self):
        one = Row("x", [Row("y", [A, B])])
        other = Row("x", [Row("y", [])])
        self.check_same(one, other, True)
        self.check_same(one.boxes[0], other.boxes[0], False)

    def test_of_another_kind(self):
        boxes = [Words("a", ""), Picture("a", 1, 1), Row("a", []), Pile("a", []), Grid("a", [], [], columns=[1], rows=[1])]
        for (at, one), (place, other) in itertools.product(enumerate(boxes), repeat=2):
            self.check_same(one, other, at == place)


if __name__ == "__main__":
    unittest.main()
