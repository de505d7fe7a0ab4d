"""The desk: rows that are told to it, and its answers."""

import time
import unittest

from forest import WORDS, full_tree
from helper import Numbers, no_texts, refused
from nestlaid.board import Board
from nestlaid.desk import Desk
from nestlaid.errors import (
    NoDeed, NoFrame, NoHolder, NoName, NoPlace, NoRow, NoSpot, NoText, NoTree, NoWord, NoWords, Ring,
)
from nestlaid.look import box_at, drawn, sticks_out
from nestlaid.settle import asked
from nestlaid.styles import Style
from nestlaid.texts import read_tree, show_tree

TREE = "\n".join([
    "row a gap=1", ".words b grow=1 : the cat|sat", ".pile c", "..picture d 4x3", ".grid g columns=fit,1s rows=fit,1",
    "..words h spot=0,0,1,1 : x",
])
LOOP = "row a\n.words b wide=b.wide+0 : x"


class DeskCase(unittest.TestCase):
    def desk(self, head="tree 40 free", text=TREE):
        desk = Desk()
        self.assertEqual(desk.say(head + "\n" + text), "ok")
        return desk

    def state(self, desk):
        """All that a desk answers."""
        return [desk.say(row) for row in ("tree", "draw", "out", "anew", "place a", "number a wide")]

    def check_refused(self, desk, error, row):
        before = self.state(desk)
        told = refused(self, error, desk.say, row)
        self.assertEqual(self.state(desk), before)
        return told

    def check_same(self, desk, board):
        """The desk answers as this board does."""
        wide, high = board.frame()
        frame = {"wide": wide, "high": high}
        self.assertEqual(desk.say("tree"), show_tree(board.tree()))
        self.assertEqual(desk.say("draw"), "\n".join(drawn(board.tree(), **frame)))
        self.assertEqual(desk.say("out"), ", ".join([f"{n} {way}" for n, way in sticks_out(board.tree(), **frame)]))
        told = [key.split(" ") for key in desk.say("anew").split(", ") if key]
        self.assertEqual(sorted(map(tuple, told)), sorted([(name, word) for name, word, reason in board.anew()]))
        for name, *place in board.places():
            self.assertEqual(desk.say("place " + name), " ".join(map(str, place)))
        keys = asked(board.tree(), **frame)
        for name in {name for name, word in keys}:
            for word in WORDS:
                if (name, word) in keys:
                    self.assertEqual(desk.say(f"number {name} {word}"), str(board.number(name, word)))
                else:
                    refused(self, NoWord, desk.say, f"number {name} {word}")
        for x, y in ((0, 0), (3, 1), (12, 0), (-1, 0), (0, -12), (39, 2), (40, 2), (10 ** 11, 3)):
            self.assertEqual(desk.say(f"at {x} {y}"), box_at(board.tree(), x, y, **frame) or "none")


class RowsTest(DeskCase):
    def test_tree_begins_a_board(self):
        for head, frame in (("tree 40 free", (40, None)), ("tree 0 0", (0, 0)), ("tree 12 7", (12, 7)),
                            ("tree 80 free", (80, None))):
            desk = self.desk(head)
            self.check_same(desk, Board(read_tree(TREE), wide=frame[0], high=frame[1]))

    def test_tree_forgets_all_ahead(self):
        desk = self.desk()
        desk.say("take c")
        self.assertEqual(desk.say("tree 9 3\nwords z : x"), "ok")
        self.check_same(desk, Board(read_tree("words z : x"), wide=9, high=3))
        refused(self, NoDeed, desk.say, "undo")
        refused(self, NoName, desk.say, "place a")

    def test_by_hand(self):
        desk = self.desk("tree 12 free", "row a rims=1,1,1,0\n.words b : the cat\n.picture c 3x1")
        self.assertEqual(desk.say("draw"), "            \n the cat### ")
        self.assertEqual(desk.say("place b"), "1 1 7 1")
        self.assertEqual(desk.say("number c wish"), "3")
        self.assertEqual(desk.say("at 8 1"), "c")
        self.assertEqual(desk.say("at 11 1"), "a")
        self.assertEqual(desk.say("at 12 1"), "none")
        self.assertEqual(desk.say("at -1 1"), "none")
        self.assertEqual(desk.say("out"), "")
        self.assertEqual(desk.say("frame 6 2"), "ok")
        self.assertEqual(desk.say("out"), "b words, c across")
        self.assertEqual(desk.say("frame 12 3"), "ok")
        self.assertEqual(desk.say("tree"), "row a rims=1,1,1,0\n.words b : the cat\n.picture c 3x1")
        self.assertEqual(desk.say(row="frame 12 3"), "ok")
        self.assertEqual(desk.say("anew"), "")
        self.assertEqual(desk.say("place c"), "8 1 3 2")

    def test_places_below_0(self):
        desk = self.desk("tree 2 1", "row a pack=end\n.words b wide=5 shrink=0 : x")
        self.assertEqual(desk.say("place b"), "-3 0 5 1")
        self.assertEqual(desk.say("number b left"), "-3")
        self.assertEqual(desk.say("at -3 0"), "b")

    def test_draw_without_lines_and_without_signs(self):
        self.assertEqual(self.desk("tree 5 0", "words a : x").say("draw"), "")
        self.assertEqual(self.desk("tree 0 3", "words a : x").say("draw"), "\n\n")

    def test_each_deed(self):
        rows = [
            ("put a 1 words e grow=2 : new|one", lambda b: b.put("a", 1, read_tree("words e grow=2 : new|one"))),
            ("put c 0 picture f 2x2", lambda b: b.put("c", 0, read_tree("picture f 2x2"))),
            ("put a 4 grid i gap=1 columns=2,fit rows=3s high=4",
             lambda b: b.put("a", 4, read_tree("grid i gap=1 columns=2,fit rows=3s high=4"))),
            ("put g 1 row j turn spot=0,1,2,1 wide=5", lambda b: b.put("g", 1, read_tree("row j turn wide=5"), spot=(0, 1, 2, 1))),
            ("put j 0 words k : ", lambda b: b.put("j", 0, read_tree("words k : "))),
            ("put j 1 pile m", lambda b: b.put("j", 1, read_tree("pile m"))),
            ("take d", lambda b: b.take("d")),
            ("restyle b wide=20 shrink=0 stand=end", lambda b: b.restyle("b", Style(wide=20, shrink=0, stand="end"))),
            ("restyle b", lambda b: b.restyle("b", Style())),
            ("restyle c wide=500p high=b.wide-2 rims=1,0,0,0",
             lambda b: b.restyle("c", Style(wide=("part", 500), high=("as", "b", "wide", -2), rims=(1, 0, 0, 0)))),
            ("retell b : now it | is : so ", lambda b: b.retell("b", "now it \n is : so ")),
            ("retell b : ", lambda b: b.retell("b", "")),
            ("retell b :  : ", lambda b: b.retell("b", " : ")),
            ("frame 30 9", lambda b: b.set_frame(wide=30, high=9)),
            ("frame 50 free", lambda b: b.set_frame(wide=50)),
            ("frame 0 0", lambda b: b.set_frame(wide=0, high=0)),
            ("undo", lambda b: b.undo()),
            ("undo", lambda b: b.undo()),
        ]
        desk, board = self.desk(), Board(read_tree(TREE), wide=40)
        for row, deed in rows:
            self.assertEqual(desk.say(row), "ok", row)
            deed(board)
            self.check_same(desk, board)

    def test_undo_again_and_again(self):
        desk = self.desk()
        before = desk.say("tree"), desk.say("draw")
        for row in ("take d", "retell b : x", "frame 9 free", "take c"):
            desk.say(row)
        for _ in range(4):
            self.assertEqual(desk.say("undo"), "ok")
        self.assertEqual((desk.say("tree"), desk.say("draw")), before)
        self.check_refused(desk, NoDeed, "undo")

    def test_anew_in_the_order_in_which_it_is_told(self):
        desk = self.desk("tree 9 2", "pile a\n.words b : x y\n.words c : z")
        board = Board(read_tree("pile a\n.words b : x y\n.words c : z"), wide=9, high=2)
        self.assertEqual(desk.say("anew"), ", ".join([f"{name} {word}" for name, word, reason in board.anew()]))
        desk.say("retell c : w v")
        board.retell("c", "w v")
        self.assertEqual(desk.say("anew"), ", ".join([f"{name} {word}" for name, word, reason in board.anew()]))

    def test_two_desks(self):
        one, other = self.desk(), self.desk()
        one.say("take c")
        self.assertEqual(other.say("tree"), TREE)
        refused(self, NoRow, Desk().say, "tree")

    def test_forty_boxes_and_sixty_deeds(self):
        numbers = Numbers(111)
        began = time.monotonic()
        tree = full_tree(40, numbers)
        desk, board = Desk(), Board(tree, wide=100)
        self.assertEqual(desk.say("tree 100 free\n" + show_tree(tree)), "ok")
        self.check_same(desk, board)
        words = [line.strip(".").split(" ")[1] for line in show_tree(tree).split("\n") if line.strip(".").startswith("words")]
        for at in range(65):
            name = numbers.one_of(words)
            self.assertEqual(desk.say(f"retell {name} : the cat {at}"), "ok")
            board.retell(name, f"the cat {at}")
        self.check_same(desk, board)
        self.assertLess(time.monotonic() - began, 60)


class RefusedTest(DeskCase):
    WRONG = (
        "", " ", "x", "Tree", "TREE", "tree ", " tree", "tree 40", "tree 40 free", "tree free", "trees", "draw ", " draw",
        "draw x", "Draw", "anew ", "anew x", "out ", "out x", "undo ", "undo 1", "Undo", "ok", "none", "watch", "together",
        "put", "put ", "put a", "put a 0", "put a 0 ", "put a words z : x", "put 0 words z : x", "put  0 words z : x",
        "put a  0 words z : x", "put a 0  words z : x", "put a 0 .words z : x", "put a 0 ..words z : x", "put a 0 words z",
        "put a 0 words z :", "put a 0 words Z : x", "put a 0 row z gap=0", "put a 0 row z ", "put a x words z : x",
        "put a 00 words z : x", "put a -0 words z : x", "put a +1 words z : x", "put a 1000000000000 words z : x",
        "put a 0 picture z 0x1", "put a 0 grid z", "put a 0 words z spot=0,0,1 : x", "put g 1 words z grow=1 spot=0,1,1,1 : x",
        "put g 1 words z spot=0,1,1,-1 : x", "put a 0 row z shrink=1", "put a 1.0 words z : x", "Put a 0 words z : x",
        "put nobody x words z : x", "put nobody 0 words z", "put a - words z : x", "put a -01 words z : x",
        "take", "take ", "take  b", "take b ", "take b c", "Take b",
        "restyle", "restyle ", "restyle b ", "restyle  b", "restyle b  grow=1", "restyle b grow=1 ", "restyle b grow=0",
        "restyle b shrink=1", "restyle b grow=1 wide=1", "restyle b gap=1", "restyle b spot=0,0,1,1", "restyle b : x",
        "restyle b wide=01", "restyle b Style()", "restyle nobody grow=0", "restyle b wide=b.wide", "restyle  grow=1",
        "retell", "retell ", "retell b", "retell b ", "retell b :", "retell b: x", "retell b :x", "retell  : x",
        "retell b c : x", "retell  b : x", "retell b  : x", "retell b x", "retell : x",
        "frame", "frame ", "frame 30", "frame 30 ", "frame 30 9 ", "frame 30  9", "frame  30 9", "frame free 9", "frame 30 Free",
        "frame 30 None", "frame 030 9", "frame 30 09", "frame -0 9", "frame 30 -0", "frame 30 9 9", "frame +3 9", "frame 3 -",
        "frame 1000000000000 9", "frame 9 1000000000000", "frame 9 freely", "frame x y",
        "place", "place ", "place  a", "place a ", "place a b", "Place a", "place a wide",
        "number", "number ", "number a", "number a ", "number a wide ", "number  a wide", "number a  wide", "number a wide 1",
        "at", "at ", "at 0", "at 0 ", "at  0 0", "at 0  0", "at 0 0 ", "at 0 0 0", "at x 0", "at 0 y", "at 00 0", "at 0 -0",
        "at +1 0", "at 1000000000000 0", "at 0 -1000000000000", "at 1.0 0", "at - 0", "at --1 0", "At 0 0",
        "draw\n", "undo\n", "place a\n", "take b\n", "\ndraw", "retell b : x\ny", "put a 0 words z : x\n", "frame 30 9\n",
        "put a 0 row z\n.row y", "number a\nwide", "\n", "x\ny", "anew\nx", "out\n",
        "tree\nrow a", "tree \nrow a", "tree 40\nrow a", "tree 40 \nrow a", "tree free 40\nrow a", "tree 40 free \nrow a",
        "tree  40 free\nrow a", "tree 40  free\nrow a", "tree 40 Free\nrow a", "tree 040 free\nrow a", "tree 40 -0\nrow a",
        "tree 40 free 1\nrow a", "Tree 40 free\nrow a", "tree 1000000000000 free\nrow a", "tree x free\nrow a",
        " tree 40 free\nrow a", "tree 40 free\r\nrow a\n ", "tree x free\nwrong", "frame 40 free\nrow a",
    )

    def test_no_rows(self):
        desk = self.desk()
        desk.say("retell b : x")
        for row in self.WRONG:
            self.check_refused(desk, NoRow, row)
        for wrong in no_texts():
            self.check_refused(desk, NoRow, wrong)

    def test_while_there_is_no_board(self):
        desk = Desk()
        rows = [
            "tree", "draw", "out", "anew", "undo", "place a", "number a wide", "at 0 0", "take a", "put a 0 row b",
            "restyle a", "retell a : x", "frame 3 3", *self.WRONG,
        ]
        for row in rows:
            refused(self, NoRow, desk.say, row)
        for wrong in no_texts():
            refused(self, NoRow, desk.say, wrong)
        refused(self, NoText, desk.say, "tree 40 free\nwrong")
        refused(self, NoTree, desk.say, "tree 40 free\nrow a\n.row a")
        refused(self, NoFrame, desk.say, "tree -1 free\nrow a")
        refused(self, Ring, desk.say, "tree 40 free\n" + LOOP)
        refused(self, NoRow, desk.say, "draw")
        self.assertEqual(desk.say("tree 40 free\nrow a"), "ok")
        self.assertEqual(desk.say("tree"), "row a")

    def test_as_the_board_refuses(self):
        desk = self.desk()
        for row, error in (
            ("place nobody", NoName), ("place A", NoName), ("place a1", NoName), ("place a:", NoName), ("place =", NoName),
            ("number nobody wide", NoName), ("number nobody x", NoName), ("number a x", NoWord), ("number a Wide", NoWord),
            ("number a wish", NoWord), ("number a high", NoWord), ("number -1 -1", NoName),
            ("take nobody", NoName), ("take a", NoHolder), ("take :", NoName),
            ("restyle nobody", NoName), ("restyle nobody grow=1", NoName), ("restyle a wide=5p", NoTree),
            ("restyle b wide=z.wide+0", NoTree), ("restyle b wide=b.wide+0", Ring),
            ("retell nobody : x", NoName), ("retell a : x", NoWords), ("retell : : x", NoName),
            ("frame -1 free", NoFrame), ("frame 30 -1", NoFrame), ("frame -1 -1", NoFrame), ("frame -999999999999 1", NoFrame),
            ("put nobody 0 row z", NoName), ("put b 0 row z", NoHolder), ("put b -1 row z", NoHolder),
            ("put a 4 row z", NoPlace), ("put a -1 row z", NoPlace), ("put a 999999999999 row z", NoPlace),
            ("put a 0 row z spot=0,0,1,1", NoSpot), ("put g 0 row z", NoSpot), ("put g 0 row z spot=0,0,1,1", NoSpot),
            ("put g 0 row z spot=0,0,0,0", NoSpot), ("put g 0 row z spot=7,7,1,1", NoSpot), ("put g 9 row z", NoPlace),
            ("put a 0 row z spot=9,9,9,9", NoSpot), ("put a 0 row a", NoTree), ("put a 0 row z wide=y.wide+0", NoTree),
            ("put a 0 words z wide=z.wide+0 : x", Ring), ("put g 0 row a spot=0,0,1,1", NoSpot), ("undo", NoDeed),
        ):
            self.check_refused(desk, error, row)

    def test_no_row_goes_ahead_of_what_the_board_refuses(self):
        desk = self.desk()
        for row in ("put nobody 0 row z gap=0", "restyle nobody shrink=1", "frame -1 x", "number nobody", "retell nobody",
                    "put b 00 row z", "put nobody 0 words z"):
            self.check_refused(desk, NoRow, row)

    def test_a_trees_text(self):
        desk = self.desk()
        self.assertEqual(self.check_refused(desk, NoText, "tree 40 free\n").line, 0)
        self.assertEqual(self.check_refused(desk, NoText, "tree 40 free\nrow a\n.row b gap=0").line, 1)
        self.assertEqual(self.check_refused(desk, NoText, "tree -1 -1\nrow a\n.row b\nrow c").line, 2)
        self.assertEqual(self.check_refused(desk, NoText, "tree 40 free\nrow a\n").line, 1)
        self.check_refused(desk, NoTree, "tree -1 -1\nrow a\n.row a")
        self.check_refused(desk, NoTree, "tree 40 free\nrow a wide=5p")
        self.check_refused(desk, NoFrame, "tree -1 free\n" + LOOP)
        self.check_refused(desk, NoFrame, "tree 5 -1\n" + LOOP)
        self.check_refused(desk, Ring, "tree 5 5\n" + LOOP)
        self.check_refused(desk, NoRow, "tree 40 freely\nrow a gap=0")

    def test_a_refused_tree_leaves_the_board_with_its_deeds(self):
        desk = self.desk()
        desk.say("take c")
        refused(self, Ring, desk.say, "tree 40 free\n" + LOOP)
        self.assertEqual(desk.say("undo"), "ok")
        self.assertEqual(desk.say("tree"), TREE)


if __name__ == "__main__":
    unittest.main()
