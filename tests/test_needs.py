"""What each number needs, and which boxes it reads."""

import itertools
import unittest

from forest import STANDS, WORDS, deep_tree, some_scenes, wide_tree
from helper import Hostile, no_counts, odd_things, refused
from nestlaid.boxes import Grid, Picture, Pile, Row, Words, same_record
from nestlaid.errors import NoFrame, NoName, NoTree, NoWord
from nestlaid.rules import needs, reads
from nestlaid.styles import Style
from nestlaid.trees import WIDE, box_of, names_of, restyled
from oracle import InARing, Oracle
from test_rules import keyed, one_of, tie
from test_trees import no_trees

PART = ("part", 500)


def no_words():
    return odd_things() + ["high", "Wide", "wide ", "", "least_wide", "lefttop", ("wide",), ["wide"], b"wide", "frame"]


class NeedsTest(unittest.TestCase):
    def check(self, tree, name, word, right, **frame):
        told = needs(tree, name, word, **frame)
        self.assertIs(type(told), list)
        self.assertEqual(len(told), len(set(told)))
        self.assertEqual(set(told), set(keyed(dict.fromkeys(right.split()))))

    def check_both(self, tree, name, word, right):
        """Whatever the frame."""
        self.check(tree, name, word, right)
        self.check(tree, name, word, right, wide=3, high=5)
        self.check(tree, name, word, right, high=5)

    def test_of_the_first_box(self):
        for kind, told in itertools.product((Words, Picture, Row, Pile, Grid), ({}, {"wide": 5, "high": 5})):
            box = one_of(kind, "a", [], **told)
            for word in ("wide", "left", "top"):
                self.check_both(box, "a", word, "")
            self.check(box, "a", "tall", "a.rise")
            self.check(box, "a", "tall", "a.rise", wide=7)
            self.check(box, "a", "tall", "", high=0)
            self.check(box, "a", "tall", "", wide=0, high=9)

    def test_of_one_box(self):
        for kind, boxes in itertools.product((Words, Picture, Row, Pile, Grid), ([], [Words("b", ""), Picture("c", 1, 1)])):
            holds = "" if kind in (Words, Picture) or not boxes else "b.{0} c.{0} "
            for told in ({}, {"wide": 5, "high": 5}, {"wide": tie("a", "tall"), "high": tie("a")}, {"least_wide": 0}):
                box = one_of(kind, "a", boxes, **told)
                inner_wish = holds.format("wish") + (holds.format("least") if kind is Grid else "")
                self.check_both(box, "a", "wish", {None: inner_wish, 5: ""}.get(told.get("wide"), "a.tall"))
                least = "" if "least_wide" in told else "a.wish " + holds.format("least")
                self.check_both(box, "a", "least", least)
                flow = "a.wide" if kind in (Words, Picture) else holds.format("rise")
                self.check_both(box, "a", "flow", flow)
                self.check_both(box, "a", "rise", {None: "a.flow", 5: ""}.get(told.get("high"), "a.wide"))
                base = "" if kind is Words else "b.base" if holds else "a.rise"
                self.check_both(box, "a", "base", base)

    def test_of_a_row_the_bases_of_those_that_stand_by_base(self):
        boxes = [Words("b", ""), Words("c", "", style=Style(stand="base")), Words("d", "", style=Style(stand="end"))]
        for stands in STANDS:
            bases = "b.base c.base" if stands == "base" else "c.base"
            row = Row("a", boxes, stands=stands)
            self.check_both(row, "a", "flow", "b.rise c.rise d.rise " + bases)
            self.check_both(row, "d", "top", "a.top a.tall d.tall " + bases)
            self.check_both(row, "c", "top", "a.top a.tall c.tall " + bases)
            self.check_both(row, "d", "tall", "d.rise")
            self.check_both(row, "b", "tall", "a.tall" if stands == "stretch" else "b.rise")
            each = "b.rise c.rise d.rise b.wish c.wish d.wish a.wide " + bases
            row = Row("a", boxes, turn=True, stands=stands)
            self.check_both(row, "a", "flow", each)
            self.check_both(row, "d", "top", "a.top d.tall " + each)
            self.check_both(row, "b", "tall", each if stands == "stretch" else "b.rise")

    def test_in_a_row(self):
        for size in (None, 5, PART, tie("a", "tall")):
            boxes = [Words("b", "", style=Style(wide=size, high=size)), Words("c", "")]
            each = "a.wide b.least b.wish c.least c.wish"
            for turn in (True, False):
                self.check_both(Row("a", boxes, turn=turn), "b", "wide", each)
            self.check_both(Row("a", boxes), "b", "left", "a.left a.wide b.wide c.wide")
            self.check_both(Row("a", boxes, turn=True), "b", "left", "a.left a.wide b.wide c.wide b.wish c.wish")
            if size is not None:
                self.check_both(Row("a", boxes), "b", "tall", "b.rise")
                self.check_both(Row("a", boxes, turn=True), "b", "tall", "b.rise")

    def test_in_a_pile(self):
        for size, stand in itertools.product((None, 5, PART, tie("a", "tall")), STANDS):
            boxes = [Words("b", "", style=Style(wide=size, high=size, stand=stand)), Words("c", "")]
            pile = Pile("a", boxes)
            wide = "b.wish" if size else "a.wide" if stand == "stretch" else "a.wide b.least b.wish"
            self.check_both(pile, "b", "wide", wide)
            self.check_both(pile, "b", "left", "a.left a.wide b.wide")
            self.check_both(pile, "b", "tall", "a.tall b.rise c.rise")
            self.check_both(pile, "b", "top", "a.top a.tall b.tall c.tall")

    def test_in_a_grid(self):
        for size, stand in itertools.product((None, 5, PART, tie("a", "tall")), STANDS):
            boxes = [Words("b", "", style=Style(wide=size, high=size, stand=stand)), Words("c", "")]
            grid = Grid("a", boxes, [(0, 0, 1, 1), (1, 1, 1, 1)], columns=[5, "fit"], rows=[("share", 1), 2])
            each = "a.wide b.least b.wish c.least c.wish "
            self.check_both(grid, "b", "wide", "b.wish" if size else each)
            self.check_both(grid, "b", "left", each + "a.left b.wide")
            stretched = size is None and stand == "stretch"
            self.check_both(grid, "b", "tall", "a.tall b.rise c.rise" if stretched else "b.rise")
            self.check_both(grid, "b", "top", "a.top a.tall b.rise c.rise b.tall")

    def test_parts(self):
        for holder in (Row, Pile, Grid, "turn"):
            tree = one_of(holder, "a", [Pile("b", [Words("c", "")], style=Style(wide=PART, high=PART))])
            self.check_both(tree, "b", "wish", "a.wide")
            self.check_both(tree, "b", "rise", "a.tall")
            self.check_both(tree, "b", "least", "c.least")

    def test_many_trees(self):
        for numbers, tree, frame in some_scenes(51, 250):
            oracle = Oracle(tree, **frame)
            for name, word in itertools.product(oracle.names, WORDS):
                told = needs(tree, name, word, **frame)
                self.assertEqual(len(told), len(set(told)))
                self.assertEqual(set(told), set(oracle.needs(name, word)), (name, word))
                self.assertEqual(needs(word=word, name=name, tree=tree, **frame), told)

    def test_limits_and_beyond(self):
        for tree in [deep_tree(10), deep_tree(25)] + [wide_tree(many, kind) for many in (20, 30) for kind in
                                                      (Row, Pile, Grid, "turn")]:
            oracle = Oracle(tree)
            for name, word in itertools.product(oracle.names, WORDS):
                self.assertEqual(sorted(needs(tree, name, word)), sorted(oracle.needs(name, word)))

    def test_the_list_is_the_askers_own(self):
        tree = Row("a", [Words("b", "")])
        for word in WORDS:
            told = needs(tree, "b", word)
            right = list(told)
            told.append("x")
            self.assertEqual(needs(tree, "b", word), right)

    def test_refused_in_order(self):
        tree = Row("a", [Words("b", "")])
        for wrong in no_trees():
            refused(self, NoTree, needs, wrong, Hostile(), Hostile(), wide=-1, high=-1)
            refused(self, NoTree, reads, wrong, Hostile(), Hostile())
            refused(self, NoTree, needs, wrong, "a", "wide")
        for wrong in odd_things() + ["c", "A", "ab", ""]:
            refused(self, NoName, needs, tree, wrong, Hostile(), wide=-1, high=-1)
            refused(self, NoName, needs, tree, wrong, "wide")
            refused(self, NoName, reads, tree, wrong, Hostile())
        for wrong in no_words():
            refused(self, NoWord, needs, tree, "a", wrong, wide=-1, high=-1)
            refused(self, NoWord, needs, tree, "b", wrong)
            refused(self, NoWord, reads, tree, "b", wrong)
        for wrong in no_counts():
            for word in WORDS:
                refused(self, NoFrame, needs, tree, "b", word, wide=wrong)
                if wrong is not None:
                    refused(self, NoFrame, needs, tree, "b", word, high=wrong)

    def test_frames_left_out(self):
        self.assertEqual(WIDE, 80)
        self.assertEqual(needs(Words("a", ""), "a", "tall"), [("a", "rise")])
        self.assertEqual(needs(Words("a", ""), "a", "tall", wide=80, high=None), [("a", "rise")])


class ReadsTest(unittest.TestCase):
    def check(self, tree, name, word, right):
        told = reads(tree, name, word)
        self.assertIs(type(told), list)
        self.assertEqual(sorted(told), sorted(right))
        self.assertEqual(reads(word=word, name=name, tree=tree), told)

    def test_of_the_first_box(self):
        for kind in (Words, Picture, Row, Pile, Grid):
            box = one_of(kind, "a", [Words("b", "")], wide=3, high=tie("a"))
            self.check(box, "a", "wide", ["a", ""])
            self.check(box, "a", "tall", ["a", ""])
            for word in ("least", "wish", "rise", "base", "left", "top"):
                self.check(box, "a", word, ["a"])
            self.check(box, "a", "flow", ["a"] if kind in (Words, Picture) else ["a", "b"])

    def test_of_others(self):
        for holder, part in itertools.product((Row, "turn", Pile, Grid), (True, False)):
            told = {"wide": PART, "high": PART} if part else {"wide": tie("c"), "high": 3}
            inner = Pile("b", [Words("d", ""), Words("e", "")], style=Style(**told))
            tree = one_of(holder, "a", [inner, Words("c", "")])
            around = ["a", "b"] if holder is Grid else ["a", "b", "c"]
            for word in ("wide", "tall", "left", "top"):
                self.check(tree, "b", word, around)
            for word in ("wish", "rise"):
                self.check(tree, "b", word, ["a", "b"] if part else ["b"])
            for word in ("least", "base"):
                self.check(tree, "b", word, ["b"])
            self.check(tree, "b", "flow", ["b", "d", "e"])

    def test_a_part_of_one_size_alone(self):
        tree = Row("a", [Words("b", "", style=Style(wide=PART))])
        self.check(tree, "b", "wish", ["a", "b"])
        self.check(tree, "b", "rise", ["b"])
        tree = Row("a", [Words("b", "", style=Style(high=PART))])
        self.check(tree, "b", "wish", ["b"])
        self.check(tree, "b", "rise", ["a", "b"])

    def test_many_trees(self):
        for numbers, tree, frame in some_scenes(52, 250):
            oracle = Oracle(tree)
            for name, word in itertools.product(oracle.names, WORDS):
                self.check(tree, name, word, list(oracle.reads(name, word)))

    def test_a_number_hangs_on_nothing_else(self):
        """Where what it reads has the same records, it needs the same numbers, and is the same where these are."""
        kept = 0
        for numbers, tree, frame in some_scenes(53, 150, odds=12):
            name = numbers.one_of(names_of(tree))
            new = restyled(tree, name, Style(grow=1, rims=(1, 0, 2, 0), stand=numbers.one_of(STANDS)))
            try:
                ahead, now = Oracle(tree, **frame).settled(), Oracle(new, **frame).settled()
            except InARing:
                continue
            for key in set(now) & set(ahead):
                if not all(same_record(box_of(tree, n), box_of(new, n)) for n in reads(new, *key) if n):
                    continue
                told = needs(new, *key, **frame)
                self.assertEqual(sorted(told), sorted(needs(tree, *key, **frame)))
                if all(ahead[need] == now[need] for need in told):
                    self.assertEqual(ahead[key], now[key])
                    kept += 1
        self.assertGreater(kept, 1000)


if __name__ == "__main__":
    unittest.main()
