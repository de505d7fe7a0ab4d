"""Each rule by hand, with known numbers of just those that it needs; then all of them beside the oracle's."""

import itertools
import unittest

from forest import STANDS, WORDS, all_in, some_scenes
from helper import Hostile, Numbers, refused
from nestlaid.boxes import Grid, Picture, Pile, Row, Words
from nestlaid.errors import NoFrame, NoName, NoTree, NoWord
from nestlaid.rules import by_rule, needs
from nestlaid.styles import Style
from oracle import Oracle

BIG = 10 ** 12 - 1
PART = ("part", 333)


def tie(name, side="wide", more=0):
    return ("as", name, side, more)


def keyed(known):
    """Known numbers from texts such as "a.wide"."""
    return {tuple(key.split(".")): number for key, number in known.items()}


def one_of(kind, name, boxes, **style):
    """A box of the kind, plain but for its style."""
    style = Style(**style)
    if kind is Words:
        return Words(name, "the cat", style=style)
    if kind is Picture:
        return Picture(name, 4, 3, style=style)
    if kind is Row or kind is Pile:
        return kind(name, boxes, gap=2, style=style)
    if kind == "turn":
        return Row(name, boxes, turn=True, gap=2, lane=1, style=style)
    spots = [(at, 0, 1, 1) for at in range(len(boxes))]
    return Grid(name, boxes, spots, columns=["fit", 3, ("share", 1)], rows=["fit"], gap=2, style=style)


class Strict(dict):
    """Known numbers that may be asked for by a key that they have, and for nothing else."""

    def fail(self, *told):
        raise AssertionError("something else was looked at")

    __iter__ = __contains__ = __len__ = get = items = keys = values = fail


class RuleCase(unittest.TestCase):
    def check(self, tree, name, word, known, right, **frame):
        """By just these known numbers, which are all that it needs, the number is this."""
        known = keyed(known)
        self.assertEqual(sorted(needs(tree, name, word, **frame)), sorted(known))
        self.assertEqual(by_rule(tree, name, word, Strict(known), **frame), right)
        others = {(other, its): Hostile() for other in ("a", "b", "c", "zz") for its in (*WORDS, "none")}
        self.assertEqual(by_rule(tree, name, word, {**others, **known}, **frame), right)
        self.assertEqual(by_rule(known=known, word=word, name=name, tree=tree, **frame), right)


class WishTest(RuleCase):
    def test_of_words(self):
        for text, right in (("", 0), ("the cat", 7), ("the  cat \nsat", 7), ("a\nbcd ef", 6), (" ", 0)):
            self.check(Words("a", text), "a", "wish", {}, right)
            self.check(Words("a", text, style=Style(rims=(2, 3, 7, 7))), "a", "wish", {}, right + 5)

    def test_held(self):
        for told, right in (
            ({"least_wide": 9}, 9), ({"least_wide": 5}, 7), ({"most_wide": 5}, 5), ({"most_wide": 9}, 7),
            ({"least_wide": 9, "most_wide": 4}, 9), ({"most_wide": 0}, 0), ({"least_wide": 0}, 7),
            ({"most_wide": 9, "rims": (2, 3, 0, 0)}, 9), ({"least_high": 90, "most_high": 1}, 7),
        ):
            self.check(Words("a", "the cat", style=Style(**told)), "a", "wish", {}, right)

    def test_of_so_many_cells(self):
        for kind in (Words, Picture, Row, Pile, Grid, "turn"):
            for inner in ([], [Words("b", "x")]):
                self.check(one_of(kind, "a", inner, wide=20, rims=(9, 9, 9, 9)), "a", "wish", {}, 20)
                self.check(one_of(kind, "a", inner, wide=0), "a", "wish", {}, 0)
                self.check(one_of(kind, "a", inner, wide=20, most_wide=6), "a", "wish", {}, 6)
                self.check(one_of(kind, "a", inner, wide=20, least_wide=26), "a", "wish", {}, 26)
                self.check(one_of(kind, "a", inner, wide=20, least_wide=26, most_wide=6), "a", "wish", {}, 26)

    def test_a_part_of_the_holders_inside(self):
        for kind, holder in itertools.product((Words, Picture, Row, Pile, Grid), (Row, Pile, Grid, "turn")):
            for part, wide, right in ((333, 20, 5), (500, 20, 8), (1000, 20, 17), (2500, 20, 42), (0, 20, 0),
                                      (999, 4, 0), (1000, 3, 0), (1000, 2, 0), (1000, 0, 0), (1, 1003, 1)):
                inner = one_of(kind, "b", [], wide=("part", part), rims=(5, 5, 5, 5))
                self.check(one_of(holder, "a", [inner], rims=(1, 2, 8, 9)), "b", "wish", {"a.wide": wide}, right)
            inner = one_of(kind, "b", [], wide=("part", 500), least_wide=9, most_wide=11)
            for wide, right in ((0, 9), (20, 10), (90, 11)):
                self.check(one_of(holder, "a", [inner]), "b", "wish", {"a.wide": wide}, right)

    def test_a_tie(self):
        for kind, side in itertools.product((Words, Picture, Row, Pile, Grid), ("wide", "tall")):
            for more, number, right in ((0, 12, 12), (3, 12, 15), (-3, 12, 9), (-12, 12, 0), (-13, 12, 0), (-5, 0, 0)):
                first = one_of(kind, "a", [], wide=tie("a", side, more), rims=(3, 3, 3, 3))
                self.check(first, "a", "wish", {f"a.{side}": number}, right)
                tree = Row("c", [one_of(kind, "a", [], wide=tie("b", side, more)), Words("b", "")])
                self.check(tree, "a", "wish", {f"b.{side}": number}, right)
                held = one_of(kind, "a", [], wide=tie("a", side, more), least_wide=5, most_wide=13)
                self.check(held, "a", "wish", {f"a.{side}": number}, max(5, min(13, right)))

    def test_of_a_picture(self):
        self.check(Picture("a", 4, 9), "a", "wish", {}, 4)
        self.check(Picture("a", 4, 9, style=Style(rims=(1, 2, 3, 4))), "a", "wish", {}, 7)

    def test_of_a_row(self):
        two = [Words("b", ""), Words("c", "")]
        for turn in (True, False):
            self.check(Row("a", [], gap=5, turn=turn), "a", "wish", {}, 0)
            self.check(Row("a", [], gap=5, turn=turn, style=Style(rims=(1, 2, 3, 4))), "a", "wish", {}, 3)
            self.check(Row("a", two[:1], gap=5, turn=turn), "a", "wish", {"b.wish": 3}, 3)
            tree = Row("a", two, gap=5, turn=turn, style=Style(rims=(1, 2, 3, 4)))
            self.check(tree, "a", "wish", {"b.wish": 3, "c.wish": 9}, 20)

    def test_of_a_pile(self):
        two = [Words("b", ""), Words("c", "")]
        self.check(Pile("a", [], gap=5, style=Style(rims=(1, 2, 3, 4))), "a", "wish", {}, 3)
        self.check(Pile("a", two, gap=5), "a", "wish", {"b.wish": 3, "c.wish": 9}, 9)
        self.check(Pile("a", two, style=Style(rims=(1, 2, 0, 0))), "a", "wish", {"b.wish": 9, "c.wish": 3}, 12)

    def test_of_a_grid_the_greater_of_both_sizes(self):
        two = [Words("b", ""), Words("c", "")]
        tree = Grid("a", two, [(0, 0, 1, 1), (0, 1, 2, 1)], columns=["fit", ("share", 3)], rows=[1, 1], gap=2)
        self.check(tree, "a", "wish", {"b.least": 1, "b.wish": 4, "c.least": 3, "c.wish": 4}, 6)
        self.check(tree, "a", "wish", {"b.least": 1, "b.wish": 4, "c.least": 3, "c.wish": 12}, 12)
        # By leasts 7 and 0, by wishes 0 and 5 (of 9 less the gap 3 and 4).
        self.check(tree, "a", "wish", {"b.least": 7, "b.wish": 0, "c.least": 0, "c.wish": 9}, 13)
        tree = Grid("a", [], [], columns=[4, "fit", 3], rows=[1], gap=2, style=Style(rims=(1, 2, 0, 0)))
        self.check(tree, "a", "wish", {}, 14)
        tree = Grid("a", two[:1], [(0, 0, 1, 1)], columns=[4], rows=["fit"], gap=2)
        self.check(tree, "a", "wish", {"b.least": 7, "b.wish": 9}, 4)


class LeastTest(RuleCase):
    def test_told(self):
        for kind in (Words, Picture, Row, Pile, Grid):
            for least in (0, 3, 50):
                box = one_of(kind, "a", [Words("b", "")], least_wide=least, most_wide=2, wide=9, rims=(1, 1, 1, 1))
                self.check(box, "a", "least", {}, least)
                box = one_of(kind, "a", [Words("b", "")], least_wide=least, wide=PART)
                self.check(Row("c", [box]), "a", "least", {}, least)

    def test_of_words(self):
        for text, right in (("", 0), ("the cats", 4), ("a\nlonger b", 6)):
            self.check(Words("a", text), "a", "least", {"a.wish": 99}, right)
            self.check(Words("a", text, style=Style(rims=(2, 3, 9, 9))), "a", "least", {"a.wish": 99}, right + 5)
            self.check(Words("a", text), "a", "least", {"a.wish": 1}, min(right, 1))
            self.check(Words("a", text, style=Style(wide=9)), "a", "least", {"a.wish": 0}, 0)
            self.check(Words("a", text, style=Style(wide=tie("a"))), "a", "least", {"a.wish": 99}, right)

    def test_a_part_needs_no_wish(self):
        box = Words("b", "the cats", style=Style(wide=PART, rims=(1, 1, 0, 0), most_wide=2))
        self.check(Row("a", [box]), "b", "least", {}, 6)
        self.check(Row("a", [Picture("b", 4, 3, style=Style(wide=PART))]), "b", "least", {}, 4)
        box = Pile("b", [Words("c", "")], style=Style(wide=PART, rims=(1, 1, 0, 0)))
        self.check(Row("a", [box]), "b", "least", {"c.least": 7}, 9)

    def test_of_a_picture(self):
        self.check(Picture("a", 4, 3, style=Style(rims=(1, 1, 9, 9))), "a", "least", {"a.wish": 99}, 6)
        self.check(Picture("a", 4, 3), "a", "least", {"a.wish": 2}, 2)

    def test_of_a_row(self):
        two = [Words("b", ""), Words("c", "")]
        known = {"a.wish": 99, "b.least": 3, "c.least": 9}
        self.check(Row("a", two, gap=5, style=Style(rims=(1, 1, 9, 9))), "a", "least", known, 19)
        self.check(Row("a", two, gap=5, turn=True, style=Style(rims=(1, 1, 9, 9))), "a", "least", known, 11)
        self.check(Row("a", two, gap=5), "a", "least", {**known, "a.wish": 4}, 4)
        for turn in (True, False):
            self.check(Row("a", [], gap=5, turn=turn), "a", "least", {"a.wish": 99}, 0)

    def test_of_a_pile(self):
        two = [Words("b", ""), Words("c", "")]
        self.check(Pile("a", two, gap=5), "a", "least", {"a.wish": 99, "b.least": 3, "c.least": 9}, 9)
        self.check(Pile("a", [], style=Style(rims=(1, 2, 0, 0))), "a", "least", {"a.wish": 99}, 3)

    def test_of_a_grid(self):
        two = [Words("b", ""), Words("c", "")]
        tree = Grid("a", two, [(0, 0, 1, 1), (0, 1, 3, 1)], columns=["fit", 2, ("share", 3)], rows=[1, 1], gap=1)
        self.check(tree, "a", "least", {"a.wish": 99, "b.least": 3, "c.least": 4}, 7)
        self.check(tree, "a", "least", {"a.wish": 99, "b.least": 3, "c.least": 12}, 12)
        self.check(tree, "a", "least", {"a.wish": 6, "b.least": 3, "c.least": 12}, 6)


class WideTest(RuleCase):
    def row(self, styles, **told):
        return Row("a", [Words(name, "", style=Style(**style)) for name, style in zip("bcde", styles)], **told)

    def check_row(self, row, wide, wishes, leasts, rights):
        known = {"a.wide": wide}
        for box, wish, least in zip(row.boxes, wishes, leasts):
            known.update({f"{box.name}.wish": wish, f"{box.name}.least": least})
        for box, right in zip(row.boxes, rights):
            self.check(row, box.name, "wide", known, right)

    def test_of_the_first_box(self):
        for kind in (Words, Picture, Row, Pile, Grid):
            box = one_of(kind, "a", [Words("b", "")], wide=5, least_wide=99, most_wide=3)
            self.check(box, "a", "wide", {}, 80)
            for wide in (0, 7, BIG):
                self.check(box, "a", "wide", {}, wide, wide=wide, high=2)

    def test_in_a_row_nobody_grows_of_itself(self):
        self.check_row(self.row([{}, {}]), 50, [3, 9], [1, 1], [3, 9])
        self.check_row(self.row([{"wide": 3}, {"most_wide": 90}]), 50, [3, 9], [1, 1], [3, 9])

    def test_in_a_row_by_grows(self):
        self.check_row(self.row([{"grow": 1}, {"grow": 2}, {}], gap=2), 50, [3, 9, 1], [0, 0, 0], [14, 31, 1])
        row = self.row([{"grow": 1, "most_wide": 5}, {"grow": 2}, {}], gap=2, style=Style(rims=(1, 2, 0, 0)))
        self.check_row(row, 50, [3, 9, 1], [0, 0, 0], [5, 37, 1])
        row = self.row([{"grow": 1, "most_wide": 5}, {"grow": 1, "most_wide": 6}])
        self.check_row(row, 50, [3, 9], [0, 0], [5, 9])
        self.check_row(row, 50, [3, 4], [0, 0], [5, 6])

    def test_in_a_row_by_shrinks(self):
        self.check_row(self.row([{}, {}]), 10, [6, 10], [0, 0], [3, 7])
        self.check_row(self.row([{}, {}]), 10, [6, 10], [5, 0], [5, 5])
        self.check_row(self.row([{"shrink": 0}, {}]), 10, [6, 10], [0, 0], [6, 4])
        self.check_row(self.row([{"shrink": 2}, {}]), 10, [6, 10], [0, 0], [2, 8])
        self.check_row(self.row([{}, {}]), 10, [6, 10], [5, 8], [5, 8])
        self.check_row(self.row([{}, {}]), 0, [6, 10], [0, 0], [0, 0])
        self.check_row(self.row([{}, {}], gap=5), 3, [6, 10], [1, 2], [1, 2])

    def test_in_a_row_a_known_wish_below_the_least(self):
        self.check_row(self.row([{}, {}]), 10, [6, 10], [9, 0], [6, 4])
        self.check_row(self.row([{}, {}]), 10, [6, 10], [9, 90], [6, 10])

    def test_in_a_row_just_as_wide(self):
        self.check_row(self.row([{"grow": 1}, {}], gap=4), 20, [6, 10], [0, 0], [6, 10])
        self.check_row(self.row([{"grow": 1}, {}], gap=4), 21, [6, 10], [0, 0], [7, 10])
        self.check_row(self.row([{"shrink": 0}, {}], gap=4), 19, [6, 10], [0, 0], [6, 9])

    def test_in_a_row_with_rims_wider_than_it(self):
        row = self.row([{}, {"shrink": 0}], style=Style(rims=(30, 30, 0, 0)))
        self.check_row(row, 50, [6, 10], [2, 0], [2, 10])

    def test_in_a_row_told_sizes_are_wishes(self):
        row = self.row([{"wide": 6}, {"wide": PART, "grow": 1}, {"wide": tie("b")}])
        self.check_row(row, 50, [6, 10, 3], [2, 0, 3], [6, 41, 3])

    def test_in_a_row_that_turns(self):
        row = self.row([{"grow": 1}, {}, {"grow": 1}, {}], turn=True, gap=1, style=Style(rims=(1, 1, 0, 0)))
        self.check_row(row, 12, [4, 5, 6, 20], [0, 0, 0, 3], [4, 5, 10, 10])
        self.check_row(row, 12, [4, 6, 6, 3], [0, 0, 0, 3], [10, 6, 6, 3])
        self.check_row(row, 12, [0, 0, 0, 0], [0, 0, 0, 0], [3, 0, 4, 0])
        self.check_row(row, 0, [0, 0, 0, 0], [0, 0, 0, 0], [0, 0, 0, 0])
        self.check_row(row, 2, [1, 1, 1, 1], [0, 1, 0, 1], [0, 1, 0, 1])
        self.check_row(row, 7, [2, 2, 2, 2], [0] * 4, [2, 2, 2, 2])
        self.check_row(row, 6, [2, 2, 2, 2], [0] * 4, [4, 2, 4, 2])

    def test_in_a_pile(self):
        pile = Pile("a", [Words("b", "")], gap=9, style=Style(rims=(1, 2, 0, 0)))
        self.check(pile, "b", "wide", {"a.wide": 20}, 17)
        self.check(pile, "b", "wide", {"a.wide": 2}, 0)
        held = Pile("a", [Words("b", "", style=Style(least_wide=9, most_wide=12))])
        for wide, right in ((0, 9), (10, 10), (20, 12)):
            self.check(held, "b", "wide", {"a.wide": wide}, right)

    def test_in_a_pile_by_another_stand(self):
        for stand in ("start", "end", "middle", "base"):
            for pile in (
                Pile("a", [Words("b", "", style=Style(stand=stand))]), Pile("a", [Words("b", "")], stands=stand),
                Pile("a", [Words("b", "", style=Style(stand=stand, most_wide=2))], stands="stretch"),
            ):
                for wide, wish, least, right in ((20, 7, 3, 7), (5, 7, 3, 5), (2, 7, 3, 3), (20, 4, 6, 6)):
                    self.check(pile, "b", "wide", {"a.wide": wide, "b.wish": wish, "b.least": least}, right)
        pile = Pile("a", [Words("b", "", style=Style(stand="stretch"))], stands="end")
        self.check(pile, "b", "wide", {"a.wide": 20}, 20)

    def test_in_a_pile_or_a_grid_told(self):
        for holder, size, stand in itertools.product((Pile, Grid), (5, PART, tie("a", "tall")), (None, *STANDS)):
            tree = one_of(holder, "a", [one_of(Words, "b", [], wide=size, stand=stand, most_wide=3)])
            self.check(tree, "b", "wide", {"b.wish": 41}, 41)

    def test_in_a_grid(self):
        two = [Words("b", ""), Words("c", "", style=Style(stand="end"))]
        columns = ["fit", 4, ("share", 1)]
        grid = Grid("a", two, [(0, 0, 2, 1), (1, 1, 2, 1)], columns=columns, rows=[1, 1], gap=1)
        known = {"a.wide": 30, "b.least": 6, "b.wish": 9, "c.least": 2, "c.wish": 8}
        # The floors are 1, 4, 0, the ceilings 4, 4, 3; so fit has 4, and the share has the rest of 28.
        self.check(grid, "b", "wide", known, 9)
        self.check(grid, "c", "wide", known, 8)
        self.check(grid, "c", "wide", {**known, "c.wish": 50}, 25)
        self.check(grid, "c", "wide", {**known, "a.wide": 0}, 5)
        self.check(grid, "c", "wide", {**known, "a.wide": 0, "c.wish": 1, "c.least": 5}, 5)
        self.check(grid, "b", "wide", {**known, "a.wide": 0}, 6)
        self.check(grid, "b", "wide", {**known, "a.wide": 9}, 8)

    def test_in_a_grid_held(self):
        grid = Grid("a", [Words("b", "", style=Style(least_wide=5, most_wide=9))], [(0, 0, 1, 1)], columns=[("share", 1)],
                    rows=[1], style=Style(rims=(1, 1, 0, 0)))
        for wide, right in ((4, 5), (9, 7), (20, 9)):
            self.check(grid, "b", "wide", {"a.wide": wide, "b.least": 0, "b.wish": 0}, right)


class ColumnsTest(RuleCase):
    """The columns of a grid, by the wides of boxes that stretch in one each."""

    def check_columns(self, columns, wide, leasts, wishes, rights, gap=0):
        boxes = [Words(name, "") for name in "bcdef"[:len(columns)]]
        spots = [(at, 0, 1, 1) for at in range(len(columns))]
        grid = Grid("a", boxes, spots, columns=columns, rows=["fit"], gap=gap)
        known = {"a.wide": wide}
        for box, least, wish in zip(boxes, leasts, wishes):
            known.update({f"{box.name}.least": least, f"{box.name}.wish": wish})
        for box, right in zip(boxes, rights):
            self.check(grid, box.name, "wide", known, right)
        known["a.left"] = 0
        for at, box in enumerate(boxes):
            right = sum(rights[:at]) + gap * at
            self.check(grid, box.name, "left", {**known, f"{box.name}.wide": 1}, right)

    def test_floors_where_they_come_to_the_room(self):
        self.check_columns(["fit", 3, ("share", 1)], 10, [4, 9, 3], [9, 9, 9], [4, 3, 3])
        self.check_columns(["fit", 3, ("share", 1)], 2, [4, 9, 3], [9, 9, 9], [4, 3, 3], gap=1)

    def test_fit_grows_to_its_wish_ahead_of_shares(self):
        self.check_columns(["fit", 3, ("share", 1)], 13, [4, 9, 3], [9, 9, 9], [7, 3, 3])
        self.check_columns(["fit", 3, ("share", 1)], 17, [4, 9, 3], [9, 9, 9], [9, 3, 5])
        self.check_columns(["fit", 3, "fit"], 13, [4, 9, 3], [9, 9, 4], [6, 3, 4])
        self.check_columns(["fit", 3, "fit"], 90, [4, 9, 3], [9, 9, 4], [9, 3, 4])
        self.check_columns(["fit", "fit"], 9, [0, 0], [9, 9], [4, 5])

    def test_gaps(self):
        self.check_columns(["fit", 3, ("share", 1)], 21, [4, 9, 3], [9, 9, 9], [9, 3, 5], gap=2)

    def test_wishes_below_the_leasts(self):
        self.check_columns(["fit", ("share", 1)], 20, [4, 3], [1, 1], [4, 16])

    def test_shares(self):
        self.check_columns([("share", 1), ("share", 2), 5], 35, [0, 0, 0], [0, 0, 0], [10, 20, 5])
        self.check_columns([("share", 1), ("share", 2), 5], 35, [12, 0, 0], [50, 0, 0], [12, 18, 5])
        self.check_columns([("share", 1), ("share", 1), ("share", 1)], 10, [0, 0, 0], [0, 0, 0], [3, 3, 4])


class FlowTest(RuleCase):
    def test_of_words(self):
        box = Words("a", "the cat sat\nx", style=Style(rims=(1, 1, 2, 3)))
        for wide, lines in ((0, 4), (2, 4), (9, 3), (12, 3), (13, 2), (99, 2)):
            self.check(box, "a", "flow", {"a.wide": wide}, lines + 5)
        self.check(Words("a", ""), "a", "flow", {"a.wide": 0}, 1)

    def test_of_a_picture(self):
        for wide, right in ((0, 0), (1, 0), (2, 1), (4, 3), (5, 3), (7, 5), (BIG, BIG * 3 // 4)):
            self.check(Picture("a", 4, 3), "a", "flow", {"a.wide": wide}, right)
        box = Picture("a", 4, 3, style=Style(rims=(1, 2, 4, 5)))
        self.check(box, "a", "flow", {"a.wide": 11}, 15)
        self.check(box, "a", "flow", {"a.wide": 2}, 9)

    def test_of_a_row(self):
        two = [Words("b", ""), Words("c", "")]
        self.check(Row("a", [], lane=5, style=Style(rims=(0, 0, 1, 2))), "a", "flow", {}, 3)
        self.check(Row("a", [], turn=True, lane=5), "a", "flow", {"a.wide": 3}, 0)
        tree = Row("a", two, lane=5, gap=5, style=Style(rims=(0, 0, 1, 2)))
        self.check(tree, "a", "flow", {"b.rise": 4, "c.rise": 6}, 9)

    def test_of_a_row_that_turns(self):
        three = [Words("b", ""), Words("c", ""), Words("d", "")]
        tree = Row("a", three, turn=True, lane=5, gap=1, style=Style(rims=(1, 1, 1, 2)))
        known = {"b.rise": 4, "c.rise": 6, "d.rise": 2, "b.wish": 3, "c.wish": 4, "d.wish": 5}
        for wide, right in ((16, 9), (15, 16), (12, 16), (10, 16), (9, 25), (0, 25)):
            self.check(tree, "a", "flow", {**known, "a.wide": wide}, right)

    def test_the_bar(self):
        styles = [{"stand": "base"}, {"stand": "base"}, {"stand": "end"}]
        row = WideTest().row(styles, lane=5)
        known = {"b.rise": 4, "b.base": 1, "c.rise": 6, "c.base": 5, "d.rise": 2}
        self.check(row, "a", "flow", known, 8)
        self.check(row, "a", "flow", {**known, "d.rise": 20}, 20)
        self.check(row, "a", "flow", {**known, "c.base": 9}, 12)
        row = WideTest().row(styles[:2], turn=True, lane=5)
        known = {**known, "a.wide": 10, "b.wish": 5, "c.wish": 6}
        del known["d.rise"]
        self.check(row, "a", "flow", known, 15)
        self.check(row, "a", "flow", {**known, "a.wide": 11}, 8)
        # A base below the rise by itself lifts nothing: the bar less it is 0.
        self.check(row, "a", "flow", {**known, "c.base": 90}, 15)

    def test_stands_of_the_row_make_bases_needed(self):
        row = Row("a", [Words("b", ""), Words("c", "", style=Style(stand="start"))], stands="base")
        self.check(row, "a", "flow", {"b.rise": 4, "b.base": 1, "c.rise": 3}, 4)

    def test_of_a_pile(self):
        two = [Words("b", "", style=Style(stand="base")), Words("c", "")]
        self.check(Pile("a", [], gap=5, style=Style(rims=(0, 0, 1, 2))), "a", "flow", {}, 3)
        self.check(Pile("a", two, gap=5, style=Style(rims=(0, 0, 1, 2))), "a", "flow", {"b.rise": 4, "c.rise": 6}, 18)

    def test_of_a_grid(self):
        two = [Words("b", "", style=Style(stand="base")), Words("c", "")]
        grid = Grid("a", two, [(0, 0, 1, 1), (1, 0, 1, 3)], columns=[1, 1], rows=["fit", 2, ("share", 5)], gap=9, lane=1,
                    style=Style(rims=(0, 0, 1, 2)))
        self.check(grid, "a", "flow", {"b.rise": 4, "c.rise": 6}, 11)
        self.check(grid, "a", "flow", {"b.rise": 4, "c.rise": 13}, 16)
        self.check(Grid("a", [], [], columns=[9], rows=[3, "fit"], lane=2), "a", "flow", {}, 5)


class RiseTest(RuleCase):
    def test_by_flow(self):
        for kind in (Words, Picture, Row, Pile, Grid):
            inner = [Words("b", "")]
            self.check(one_of(kind, "a", inner), "a", "rise", {"a.flow": 7}, 7)
            for number, right in ((0, 3), (4, 4), (9, 5)):
                box = one_of(kind, "a", inner, least_high=3, most_high=5, least_wide=90)
                self.check(box, "a", "rise", {"a.flow": number}, right)
            self.check(one_of(kind, "a", inner, least_high=8, most_high=5), "a", "rise", {"a.flow": 6}, 8)
            self.check(one_of(kind, "a", inner, most_high=0), "a", "rise", {"a.flow": 6}, 0)

    def test_told(self):
        for kind in (Words, Picture, Row, Pile, Grid):
            self.check(one_of(kind, "a", [], high=6, rims=(9, 9, 9, 9)), "a", "rise", {}, 6)
            self.check(one_of(kind, "a", [], high=6, most_high=2), "a", "rise", {}, 2)
            self.check(one_of(kind, "a", [], high=6, least_high=8, most_high=2), "a", "rise", {}, 8)
            for side, more, number, right in (("wide", 2, 5, 7), ("tall", -2, 5, 3), ("tall", -9, 5, 0)):
                self.check(one_of(kind, "a", [], high=tie("a", side, more)), "a", "rise", {f"a.{side}": number}, right)

    def test_a_part_of_the_holders_inside_down(self):
        for kind, holder in itertools.product((Words, Picture, Row, Pile, Grid), (Row, Pile, Grid, "turn")):
            inner = one_of(kind, "b", [], high=("part", 333), least_high=2)
            tree = one_of(holder, "a", [inner], rims=(8, 9, 1, 2))
            for tall, right in ((20, 5), (2, 2), (0, 2), (303, 99)):
                self.check(tree, "b", "rise", {"a.tall": tall}, right)


class TallTest(RuleCase):
    def test_of_the_first_box(self):
        for kind in (Words, Picture, Row, Pile, Grid):
            for told in ({}, {"high": 9}, {"most_high": 1}, {"stand": "stretch"}):
                box = one_of(kind, "a", [], **told)
                self.check(box, "a", "tall", {"a.rise": 7}, 7)
                self.check(box, "a", "tall", {"a.rise": 7}, 7, wide=3)
                self.check(box, "a", "tall", {}, 0, high=0)
                self.check(box, "a", "tall", {}, 31, high=31)

    def test_in_a_row(self):
        box = Words("b", "", style=Style(least_high=4, most_high=9))
        row = Row("a", [box, Words("c", "", style=Style(stand="base"))], style=Style(rims=(0, 0, 1, 2)))
        for tall, right in ((0, 4), (10, 7), (30, 9)):
            self.check(row, "b", "tall", {"a.tall": tall}, right)

    def test_in_a_row_or_grid_by_its_rise(self):
        for holder in (Row, Grid, "turn"):
            for stand in ("start", "end", "middle", "base"):
                self.check(one_of(holder, "a", [one_of(Words, "b", [], stand=stand)]), "b", "tall", {"b.rise": 6}, 6)
            for size in (3, PART, tie("a")):
                box = one_of(Words, "b", [], high=size, stand="stretch", most_high=2)
                self.check(one_of(holder, "a", [box]), "b", "tall", {"b.rise": 6}, 6)

    def test_in_a_row_that_turns_as_its_line(self):
        boxes = [
            Words("b", "", style=Style(most_high=7)), Words("c", "", style=Style(stand="end")),
            Words("d", "", style=Style(stand="base")), Words("e", "", style=Style(least_high=5)),
        ]
        row = Row("a", boxes, turn=True, gap=1, style=Style(rims=(0, 0, 9, 9)))
        known = {"a.wide": 7, "b.wish": 3, "c.wish": 3, "d.wish": 4, "e.wish": 2,
                 "b.rise": 2, "c.rise": 6, "d.rise": 3, "e.rise": 1, "d.base": 1}
        self.check(row, "b", "tall", known, 6)
        self.check(row, "b", "tall", {**known, "c.rise": 9}, 7)
        self.check(row, "e", "tall", known, 5)
        self.check(row, "e", "tall", {**known, "d.rise": 8}, 8)
        self.check(row, "b", "tall", {**known, "a.wide": 5}, 2)

    def check_pile(self, styles, tall, rises, rights, **told):
        pile = Pile("a", [Words(name, "", style=Style(**style)) for name, style in zip("bcd", styles)], **told)
        known = {"a.tall": tall}
        known.update({f"{box.name}.rise": rise for box, rise in zip(pile.boxes, rises)})
        for box, right in zip(pile.boxes, rights):
            self.check(pile, box.name, "tall", known, right)

    def test_in_a_pile_grown(self):
        self.check_pile([{}, {}], 50, [3, 9], [3, 9])
        self.check_pile([{"grow": 1}, {"grow": 2}], 50, [3, 9], [15, 33], gap=2)
        self.check_pile([{"grow": 1, "most_high": 5}, {"grow": 1}], 50, [3, 9], [5, 45])
        self.check_pile([{"grow": 1, "most_high": 2}, {}], 50, [3, 9], [3, 9])
        self.check_pile([{"grow": 1, "most_wide": 2}, {}], 50, [3, 9], [38, 9], style=Style(rims=(9, 9, 1, 2)))

    def test_in_a_pile_shrunk_where_a_least_high_is_told(self):
        self.check_pile([{}, {}], 5, [3, 9], [3, 9])
        self.check_pile([{"least_high": 1}, {}], 10, [3, 9], [1, 9])
        self.check_pile([{"least_high": 0}, {"least_high": 2}], 6, [3, 9], [0, 6])
        self.check_pile([{"least_high": 0, "shrink": 0}, {"least_high": 2}], 6, [3, 9], [3, 3])
        self.check_pile([{"least_high": 0}, {"least_high": 0}], 0, [3, 9], [0, 0], gap=5)
        self.check_pile([{"least_wide": 0}, {}], 5, [3, 9], [3, 9])

    def test_in_a_pile_a_known_rise_below_the_least(self):
        self.check_pile([{"least_high": 8}, {"least_high": 2}], 6, [3, 9], [3, 3])

    def test_in_a_pile_told_highs_and_stands_are_no_matter(self):
        for stand in STANDS:
            self.check_pile([{"high": 3, "stand": stand, "grow": 1}, {"high": PART}], 20, [3, 9], [11, 9])

    def test_in_a_grid(self):
        box = Words("b", "", style=Style(least_high=2, most_high=12))
        grid = Grid("a", [box, Words("c", "", style=Style(stand="base"))], [(0, 0, 1, 2), (0, 2, 1, 1)], columns=[1],
                    rows=["fit", ("share", 1), ("share", 2)], gap=9, lane=1, style=Style(rims=(0, 0, 1, 2)))
        known = {"a.tall": 0, "b.rise": 5, "c.rise": 4}
        self.check(grid, "b", "tall", known, 5)
        # Rows of 2, 2, 4; of a tall of 20 there are 13 for the shares, 4 and 9.
        self.check(grid, "b", "tall", {**known, "a.tall": 20}, 7)
        self.check(grid, "b", "tall", {**known, "a.tall": 90}, 12)


class BaseTest(RuleCase):
    def test_of_words(self):
        self.check(Words("a", ""), "a", "base", {}, 1)
        self.check(Words("a", "x", style=Style(rims=(9, 9, 4, 9), high=0)), "a", "base", {}, 5)

    def test_of_holders(self):
        for kind in (Row, Pile, Grid, "turn"):
            box = one_of(kind, "a", [Picture("b", 1, 1), Words("c", "")], rims=(9, 9, 4, 9))
            self.check(box, "a", "base", {"b.base": 7}, 11)
            self.check(one_of(kind, "a", [], rims=(9, 9, 4, 9)), "a", "base", {"a.rise": 7}, 7)

    def test_of_a_picture(self):
        self.check(Picture("a", 1, 1, style=Style(rims=(9, 9, 4, 9))), "a", "base", {"a.rise": 7}, 7)


class LeftTest(RuleCase):
    def test_of_the_first_box(self):
        for kind in (Words, Picture, Row, Pile, Grid):
            self.check(one_of(kind, "a", [Words("b", "")], rims=(3, 3, 3, 3), stand="end"), "a", "left", {}, 0)

    def check_row(self, pack, wide, wides, rights, rims=(1, 2, 0, 0), left=10):
        boxes = [Words(name, "", style=Style(stand="end")) for name in "bcd"[:len(wides)]]
        row = Row("a", boxes, gap=2, pack=pack, style=Style(rims=rims))
        known = {"a.left": left, "a.wide": wide}
        known.update({f"{box.name}.wide": size for box, size in zip(boxes, wides)})
        for box, right in zip(boxes, rights):
            self.check(row, box.name, "left", known, right)

    def test_in_a_row_by_each_pack(self):
        self.check_row("start", 30, [3, 4, 5], [11, 16, 22])
        self.check_row("end", 30, [3, 4, 5], [22, 27, 33])
        self.check_row("middle", 30, [3, 4, 5], [16, 21, 27])
        self.check_row("between", 30, [3, 4, 5], [11, 21, 33])
        self.check_row("between", 19, [3, 4, 5], [11, 16, 22])
        self.check_row("between", 20, [3, 4, 5], [11, 16, 23])
        self.check_row("between", 30, [3], [11])
        self.check_row("middle", 30, [3], [23])

    def test_in_a_row_too_narrow(self):
        self.check_row("start", 10, [3, 4, 5], [11, 16, 22])
        self.check_row("end", 10, [3, 4, 5], [2, 7, 13])
        self.check_row("middle", 10, [3, 4, 5], [6, 11, 17])
        self.check_row("between", 10, [3, 4, 5], [11, 16, 22])
        self.check_row("end", 10, [3, 4, 5], [-8, -3, 3], left=0)
        self.check_row("end", 0, [3, 4, 5], [-15, -10, -4], left=0)

    def test_in_a_row_left_of_0(self):
        self.check_row("start", 30, [3, 4, 5], [-19, -14, -8], left=-20)
        self.check_row("middle", 15, [3, 4, 5], [-21, -16, -10], left=-20)

    def test_in_a_row_that_turns(self):
        boxes = [Words(name, "") for name in "bcd"]
        for pack, rights in (("start", (11, 15, 11)), ("end", (13, 17, 17)), ("middle", (12, 16, 14)),
                             ("between", (11, 17, 11))):
            row = Row("a", boxes, turn=True, gap=2, pack=pack, style=Style(rims=(1, 1, 0, 0)))
            known = {"a.left": 10, "a.wide": 12, "b.wish": 4, "c.wish": 4, "d.wish": 4,
                     "b.wide": 2, "c.wide": 4, "d.wide": 4}
            for box, right in zip(boxes, rights):
                self.check(row, box.name, "left", known, right)

    def test_in_a_pile(self):
        for stand, rights in (("start", (11, 11)), ("stretch", (11, 11)), ("base", (11, 11)), ("end", (20, 3)),
                              ("middle", (15, 7))):
            box = Words("b", "", style=Style(stand=stand))
            for pile in (Pile("a", [box], style=Style(rims=(1, 2, 0, 0)), pack="end", gap=5),
                         Pile("a", [Words("b", "")], stands=stand, style=Style(rims=(1, 2, 0, 0)))):
                for wide, right in zip((3, 20), rights):
                    self.check(pile, "b", "left", {"a.left": 10, "a.wide": 15, "b.wide": wide}, right)
        pile = Pile("a", [Words("b", "")], stands="middle", style=Style(rims=(9, 9, 0, 0)))
        self.check(pile, "b", "left", {"a.left": -3, "a.wide": 15, "b.wide": 5}, 3)

    def test_in_a_grid(self):
        for stand, right in (("start", 16), ("stretch", 16), ("base", 16), ("end", 27), ("middle", 21)):
            boxes = [Words("b", ""), Words("c", "", style=Style(stand=stand))]
            grid = Grid("a", boxes, [(0, 0, 1, 1), (1, 0, 2, 1)], columns=["fit", 4, ("share", 1)], rows=[1], gap=2,
                        style=Style(rims=(1, 1, 0, 0)))
            known = {"a.left": 10, "a.wide": 20, "b.least": 1, "b.wish": 3, "c.least": 0, "c.wish": 0, "c.wide": 2}
            self.check(grid, "c", "left", known, right)
            self.check(grid, "c", "left", {**known, "a.left": -10}, right - 20)


class TopTest(RuleCase):
    def test_of_the_first_box(self):
        for kind in (Words, Picture, Row, Pile, Grid):
            self.check(one_of(kind, "a", [Words("b", "")], rims=(3, 3, 3, 3), stand="end"), "a", "top", {}, 0)
            self.check(one_of(kind, "a", [Words("b", "")]), "a", "top", {}, 0, high=7)

    def test_in_a_row(self):
        for stand, rights in (("start", (11, 11)), ("stretch", (11, 11)), ("end", (20, 3)), ("middle", (15, 7))):
            row = Row("a", [Words("b", "", style=Style(stand=stand))], pack="end", style=Style(rims=(0, 0, 1, 2)))
            for tall, right in zip((3, 20), rights):
                self.check(row, "b", "top", {"a.top": 10, "a.tall": 15, "b.tall": tall}, right)
            self.check(row, "b", "top", {"a.top": -90, "a.tall": 15, "b.tall": 3}, rights[0] - 100)

    def test_in_a_row_by_base(self):
        boxes = [Words("b", ""), Words("c", ""), Words("d", "", style=Style(stand="end"))]
        row = Row("a", boxes, stands="base", style=Style(rims=(0, 0, 1, 2)))
        known = {"a.top": 10, "a.tall": 15, "b.base": 4, "c.base": 9}
        self.check(row, "b", "top", {**known, "b.tall": 99}, 16)
        self.check(row, "c", "top", {**known, "c.tall": 1}, 11)
        self.check(row, "d", "top", {**known, "d.tall": 2}, 21)

    def test_in_a_row_that_turns(self):
        styles = [{"stand": "base"}, {"stand": "middle"}, {"stand": "base"}, {"stand": "base"}, {"stand": "end"}]
        boxes = [Words(name, "", style=Style(**style)) for name, style in zip("bcdef", styles)]
        row = Row("a", boxes, turn=True, gap=1, lane=2, style=Style(rims=(1, 1, 3, 9)))
        known = {"a.top": 10, "a.wide": 12, "b.base": 1, "d.base": 3, "e.base": 1}
        known.update({f"{name}.wish": 3 for name in "bcdef"})
        known.update({"b.rise": 5, "c.rise": 2, "d.rise": 4, "e.rise": 2, "f.rise": 5})
        # Two boxes of 3 with a gap of 1 go into an inside of 10, three into one of 11.
        self.check(row, "b", "top", {**known, "b.tall": 5}, 13)
        self.check(row, "c", "top", {**known, "c.tall": 2}, 14)
        self.check(row, "d", "top", {**known, "d.tall": 4}, 20)
        self.check(row, "e", "top", {**known, "e.tall": 2}, 22)
        self.check(row, "f", "top", {**known, "f.tall": 1}, 30)
        known["a.wide"] = 13
        self.check(row, "b", "top", {**known, "b.tall": 5}, 15)
        self.check(row, "c", "top", {**known, "c.tall": 2}, 15)
        self.check(row, "d", "top", {**known, "d.tall": 4}, 13)
        self.check(row, "e", "top", {**known, "e.tall": 2}, 22)
        self.check(row, "f", "top", {**known, "f.tall": 1}, 26)

    def test_in_a_pile_by_each_pack(self):
        for pack, tall, rights in (
            ("start", 30, (11, 16, 22)), ("end", 30, (22, 27, 33)), ("middle", 30, (16, 21, 27)),
            ("between", 30, (11, 21, 33)), ("end", 10, (2, 7, 13)), ("middle", 10, (6, 11, 17)),
            ("between", 10, (11, 16, 22)), ("start", 0, (11, 16, 22)),
        ):
            pile = Pile("a", [Words(name, "", style=Style(stand="end")) for name in "bcd"], gap=2, pack=pack,
                        style=Style(rims=(0, 0, 1, 2)))
            for name, right in zip("bcd", rights):
                known = {"a.top": 10, "a.tall": tall, "b.tall": 3, "c.tall": 4, "d.tall": 5}
                self.check(pile, name, "top", known, right)
                self.check(pile, name, "top", {**known, "a.top": -10}, right - 20)

    def test_in_a_grid(self):
        for stand, right in (("start", 16), ("stretch", 16), ("base", 16), ("end", 27), ("middle", 21)):
            boxes = [Words("b", "", style=Style(stand="base")), Words("c", "", style=Style(stand=stand))]
            grid = Grid("a", boxes, [(0, 0, 1, 1), (0, 1, 1, 2)], columns=[1], rows=["fit", 4, ("share", 1)], lane=2, gap=9,
                        style=Style(rims=(0, 0, 1, 1)))
            known = {"a.top": 10, "a.tall": 20, "b.rise": 3, "c.rise": 0, "c.tall": 2}
            self.check(grid, "c", "top", known, right)
            self.check(grid, "c", "top", {**known, "a.top": -10}, right - 20)


class AllTest(unittest.TestCase):
    """Each rule beside the oracle's, with just the numbers that it needs."""

    def check_all(self, tree, frame, numbers, many=1):
        oracle = Oracle(tree, **frame)
        for name, word in itertools.product(oracle.names, WORDS):
            keys = oracle.needs(name, word)
            for _ in range(many):
                most = numbers.one_of((1, 6, 30, 200))
                known = {key: numbers.below(most) - (most // 2 if key[1] in ("left", "top") else 0) for key in keys}
                told = by_rule(tree, name, word, Strict(known), **frame)
                self.assertEqual(told, oracle.by_rule(name, word, known), (name, word, known))
                self.assertIs(type(told), int)
                self.assertTrue(told >= 0 or word in ("left", "top"))

    def test_each_kind_in_each_kind_of_holder(self):
        numbers = Numbers(41)
        sizes = (None, 7, PART, tie("b", "tall", -2), tie("a", "wide", 3))
        for kind, holder, stand in itertools.product((Words, Picture, Row, Pile, Grid), (Row, Pile, Grid, "turn"), STANDS):
            for wide, high in itertools.product(sizes, sizes):
                bounds = {}
                for bound in ("least_wide", "least_high", "most_wide", "most_high"):
                    bounds[bound] = numbers.one_of((None, None, 4, 9))
                rims = tuple([numbers.below(4) for _ in range(4)])
                inner = [one_of(Words, "d", [], stand="base"), one_of(Picture, "e", [])][:numbers.below(3)]
                box = one_of(kind, "b", inner, wide=wide, high=high, stand=stand, rims=rims, grow=1, **bounds)
                boxes = [one_of(Words, "c", [], stand=numbers.one_of(STANDS)), box][:: numbers.one_of((1, -1))]
                frame = {"wide": numbers.below(90), "high": numbers.one_of((None, 9))}
                self.check_all(one_of(holder, "a", boxes, rims=rims[::-1]), frame, numbers)

    def test_many_trees(self):
        for numbers, tree, frame in some_scenes(42, 250):
            self.check_all(tree, frame, numbers, 2)

    def test_nothing_is_changed(self):
        for numbers, tree, frame in some_scenes(43, 40):
            for box, holder in all_in(tree):
                for word in WORDS:
                    known = {key: 5 for key in needs(tree, box.name, word, **frame)}
                    before = dict(known)
                    by_rule(tree, box.name, word, known, **frame)
                    self.assertEqual(known, before)

    def test_numbers_that_were_told_may_be_handed_in(self):
        row = Row("a", [Words("b", "x", style=Style(wide=tie("a", "wide", BIG)))])
        self.assertEqual(by_rule(row, "b", "wish", {("a", "wide"): 10 ** 20}), 10 ** 20 + BIG)


class RefusedTest(unittest.TestCase):
    def test_the_order(self):
        tree = Row("a", [Words("b", "")])
        known = {("a", "wide"): 5}
        refused(self, NoTree, by_rule, None, Hostile(), Hostile(), known, wide=-1, high=-1)
        refused(self, NoName, by_rule, tree, Hostile(), Hostile(), known, wide=-1, high=-1)
        refused(self, NoName, by_rule, tree, "z", "wide", known)
        refused(self, NoWord, by_rule, tree, "a", Hostile(), known, wide=-1, high=-1)
        refused(self, NoWord, by_rule, tree, "a", "high", known)
        refused(self, NoFrame, by_rule, tree, "a", "wide", known, wide=Hostile(), high=-1)
        refused(self, NoFrame, by_rule, tree, "a", "left", known, high=Hostile())
        refused(self, NoFrame, by_rule, tree, "b", "base", {}, wide=None)


if __name__ == "__main__":
    unittest.main()
