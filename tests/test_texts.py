"""Trees written as texts, and texts read to trees."""

import itertools
import time
import unittest

from forest import all_in, deep_tree, full_tree, some_tree, wide_tree
from helper import Numbers, no_texts, refused
from nestlaid.boxes import Grid, Picture, Pile, Row, Words
from nestlaid.errors import NestError, NoText, NoTree
from nestlaid.styles import Style
from nestlaid.texts import read_tree, show_tree
from test_rules import tie
from test_trees import no_trees, sample

BIG = 10 ** 12 - 1
FIELDS = {
    "wide": None, "high": None, "least_wide": None, "least_high": None, "most_wide": None, "most_high": None,
    "grow": 0, "shrink": 1, "rims": (0, 0, 0, 0), "stand": None,
}


def plain_size(key, told):
    if type(told) is tuple and key == "rims":
        return ",".join(map(str, told))
    if type(told) is tuple and told[0] == "part":
        return str(told[1]) + "p"
    if type(told) is tuple:
        return told[1] + "." + told[2] + ("-" if told[3] < 0 else "+") + str(abs(told[3]))
    return str(told)


def plain_line(box, dots, spot):
    """A box's line by the document's words."""
    line = "." * dots + type(box).__name__.lower() + " " + box.name
    if type(box) is Picture:
        line += " " + str(box.across) + "x" + str(box.down)
    line += " turn" if getattr(box, "turn", False) else ""
    for key, default in (("gap", 0), ("lane", 0), ("pack", "start"), ("stands", "stretch")):
        if getattr(box, key, default) != default:
            line += " " + key + "=" + str(getattr(box, key))
    if type(box) is Grid:
        for key in ("columns", "rows"):
            tracks = [str(t[1]) + "s" if type(t) is tuple else str(t) for t in getattr(box, key)]
            line += " " + key + "=" + ",".join(tracks)
    if spot is not None:
        line += " spot=" + ",".join(map(str, spot))
    for key, default in FIELDS.items():
        if getattr(box.style, key) != default:
            line += " " + key + "=" + plain_size(key, getattr(box.style, key))
    return line + " : " + box.text.replace("\n", "|") if type(box) is Words else line


def plain_text(tree):
    depths, lines = {}, []
    for box, holder in all_in(tree):
        depths[box.name] = depths[holder.name] + 1 if holder else 0
        spot = None
        if type(holder) is Grid:
            spot = holder.spots[[inner.name for inner in holder.boxes].index(box.name)]
        lines.append(plain_line(box, depths[box.name], spot))
    return "\n".join(lines)


class TextCase(unittest.TestCase):
    def check(self, tree, text):
        """The tree is written so, and so it is read."""
        self.assertEqual(show_tree(tree), text)
        self.assertEqual(show_tree(tree=tree), text)
        self.assertEqual(read_tree(text), tree)
        self.assertEqual(read_tree(text=text), tree)
        self.assertEqual(plain_text(tree), text)

    def check_wrong(self, text, line):
        """The text is refused, and this is its first wrong line."""
        self.assertEqual(refused(self, NoText, read_tree, text).line, line, text)


class WrittenTest(TextCase):
    def test_words(self):
        self.check(Words("a", "the cat"), "words a : the cat")
        self.check(Words("a", ""), "words a : ")
        self.check(Words("a", " "), "words a :  ")
        self.check(Words("a", "\n"), "words a : |")
        self.check(Words("a", "a\n\nb \n"), "words a : a||b |")
        self.check(Words("a", " : "), "words a :  : ")
        self.check(Words("a", "x : y wide=3"), "words a : x : y wide=3")
        self.check(Words("abcdefgh", "..words b : x"), "words abcdefgh : ..words b : x")
        self.check(Words("words", "words"), "words words : words")
        signs = "".join([chr(code) for code in range(32, 127) if chr(code) not in "\x25|"])
        self.check(Words("a", signs), "words a : " + signs)
        self.check(Words("a", "x" * 400, style=Style(wide=3)), "words a wide=3 : " + "x" * 400)

    def test_pictures(self):
        self.check(Picture("a", 4, 3), "picture a 4x3")
        self.check(Picture("a", BIG, 1), "picture a 999999999999x1")
        self.check(Picture("a", 10, 20, style=Style(grow=2)), "picture a 10x20 grow=2")

    def test_rows(self):
        self.check(Row("a", []), "row a")
        self.check(Row("a", [], turn=True), "row a turn")
        self.check(Row("a", [], gap=2), "row a gap=2")
        self.check(Row("a", [], lane=1), "row a lane=1")
        for pack in ("end", "middle", "between"):
            self.check(Row("a", [], pack=pack), f"row a pack={pack}")
        for stands in ("start", "end", "middle", "base"):
            self.check(Row("a", [], stands=stands), f"row a stands={stands}")
        whole = Row("a", [], turn=True, gap=2, lane=10, pack="end", stands="base", style=Style(stand="stretch"))
        self.check(whole, "row a turn gap=2 lane=10 pack=end stands=base stand=stretch")

    def test_piles(self):
        self.check(Pile("a", []), "pile a")
        self.check(Pile("a", [], gap=BIG, pack="between", stands="end"), "pile a gap=999999999999 pack=between stands=end")

    def test_grids(self):
        self.check(Grid("a", [], [], columns=[10, "fit", ("share", 2)], rows=[0]), "grid a columns=10,fit,2s rows=0")
        whole = Grid("a", [], [], columns=["fit"], rows=[("share", 12), "fit"], gap=1, lane=2, stands="middle",
                     style=Style(wide=9))
        self.check(whole, "grid a gap=1 lane=2 stands=middle columns=fit rows=12s,fit wide=9")

    def test_styles(self):
        for told, right in (
            ({"wide": 20}, "wide=20"), ({"wide": 0}, "wide=0"), ({"wide": ("part", 500)}, "wide=500p"),
            ({"wide": ("part", 0)}, "wide=0p"), ({"wide": tie("a", "tall", -2)}, "wide=a.tall-2"),
            ({"wide": tie("a", "wide", 0)}, "wide=a.wide+0"), ({"high": tie("b", "wide", BIG)}, "high=b.wide+999999999999"),
            ({"high": 7}, "high=7"), ({"high": ("part", 1000)}, "high=1000p"), ({"least_wide": 3}, "least_wide=3"),
            ({"least_wide": 0}, "least_wide=0"), ({"least_high": 1}, "least_high=1"), ({"most_wide": 0}, "most_wide=0"),
            ({"most_high": 10}, "most_high=10"), ({"grow": 2}, "grow=2"), ({"shrink": 0}, "shrink=0"),
            ({"shrink": 2}, "shrink=2"), ({"rims": (1, 1, 0, 0)}, "rims=1,1,0,0"), ({"rims": (0, 0, 0, 12)}, "rims=0,0,0,12"),
            ({"stand": "end"}, "stand=end"), ({"stand": "stretch"}, "stand=stretch"), ({}, ""),
        ):
            blank = " " if right else ""
            box = Words("b", "x", style=Style(**told))
            self.check(Row("a", [box]), "row a\n.words b" + blank + right + " : x")
            self.check(Row("a", [Picture("b", 2, 1, style=Style(**told))]), "row a\n.picture b 2x1" + blank + right)
        whole = Style(wide=1, high=2, least_wide=3, least_high=4, most_wide=5, most_high=6, grow=7, shrink=8,
                      rims=(9, 10, 11, 12), stand="base")
        self.check(Pile("a", [], style=whole), (
            "pile a wide=1 high=2 least_wide=3 least_high=4 most_wide=5 most_high=6 grow=7 shrink=8 rims=9,10,11,12 stand=base"))

    def test_boxes_in_boxes(self):
        self.check(sample(), "\n".join([
            "row a gap=1",
            ".words b wide=300p : ",
            ".pile c gap=3 pack=middle stands=start wide=j.tall-2",
            "..words d : the cat",
            "..row e turn gap=2 lane=1 pack=end stands=base",
            "..grid g gap=1 lane=2 stands=end columns=fit,5,2s rows=2,fit grow=1",
            "...words h spot=0,0,1,1 : in a grid",
            "...row i spot=1,0,2,1",
            "....picture j 4x3",
            "...pile k spot=0,1,2,1",
            ".picture l 1x2",
        ]))

    def test_spots_stand_behind_all_of_a_kind_and_ahead_of_the_style(self):
        boxes = [
            Grid("b", [], [], columns=[1], rows=[2], style=Style(grow=1)), Picture("c", 1, 2, style=Style(grow=1)),
            Row("d", [], stands="end", style=Style(grow=1)), Pile("e", [], gap=1, style=Style(grow=1)),
            Words("f", "x", style=Style(grow=1)),
        ]
        spots = [(at, 0, 1, 1) for at in range(5)]
        self.check(Grid("a", boxes, spots, columns=[1] * 5, rows=[1]), "\n".join([
            "grid a columns=1,1,1,1,1 rows=1", ".grid b columns=1 rows=2 spot=0,0,1,1 grow=1",
            ".picture c 1x2 spot=1,0,1,1 grow=1", ".row d stands=end spot=2,0,1,1 grow=1",
            ".pile e gap=1 spot=3,0,1,1 grow=1", ".words f spot=4,0,1,1 grow=1 : x",
        ]))

    def test_no_trees(self):
        for wrong in no_trees():
            refused(self, NoTree, show_tree, wrong)

    def test_many_trees(self):
        numbers = Numbers(101)
        for _ in range(250):
            tree = some_tree(numbers, 1 + numbers.below(15), 40)
            self.check(tree, plain_text(tree))

    def test_limits_and_beyond(self):
        numbers = Numbers(102)
        began = time.monotonic()
        trees = [full_tree(40, numbers, 20), full_tree(60, numbers, 20), deep_tree(10), deep_tree(40)]
        trees += [wide_tree(many, kind) for many in (20, 35) for kind in (Row, "turn", Pile, Grid)]
        for tree in trees:
            self.check(tree, plain_text(tree))
        self.assertLess(time.monotonic() - began, 60)
        # Numbers of more than twelve figures are written, yet not read.
        self.assertEqual(show_tree(Words("a", "", style=Style(wide=10 ** 15))), "words a wide=1000000000000000 : ")


class ReadTest(TextCase):
    def test_what_is_no_text(self):
        for wrong in no_texts():
            self.check_wrong(wrong, 0)

    def test_wrong_lines(self):
        for wrong in (
            "", " ", "a", "words", "words ", "words a", "words a ", "words a :", "words a:", "words a: x", "words a :x",
            "words  : x", "words a  : x", "words  a : x", " words a : x", "Words a : x", "word a : x", "words A : x",
            "words abcdefghi : x", "words a1 : x", "words : x", "words a b : x", "words a wide=3", "text a : x",
            "picture a", "picture a ", "picture a 4", "picture a 4x", "picture a x3", "picture a 4x3x2", "picture a 4X3",
            "picture a 0x3", "picture a 4x0", "picture a 04x3", "picture a 4x-3", "picture a 4x3 ", "picture a  4x3",
            "picture a 4 x 3", "picture a wide=3 4x3", "picture a 4x3 : x", "picture 4x3", "picture a 4x3 gap=1",
            "picture a 1000000000000x1", "picture a 4x3 4x3", "picture a 4x3 turn",
            "row", "row ", "row a ", "row  a", "row a  turn", "row a turn turn", "row a Turn", "row a turn=True",
            "row a gap=0", "row a gap=", "row a gap", "row a gap=-1", "row a gap=+1", "row a gap=01", "row a gap=1.0",
            "row a gap=1000000000000", "row a gap=0000000000001", "row a gap= 1", "row a gap =1", "row a gap=1 ",
            "row a gap=1 gap=1", "row a gap=x", "row a gap=1 turn", "row a lane=1 gap=1", "row a lane=0", "row a pack=start",
            "row a pack=End", "row a pack=", "row a pack=stretch", "row a pack=end gap=1", "row a stands=stretch",
            "row a stands=", "row a stands=between", "row a stands=end pack=end", "row a stand=end stands=end",
            "row a columns=1 rows=1", "row a : x", "row a :", "row a text", "row a gap=\u0661", "row a gap=1_0",
            "pile a turn", "pile a lane=1", "pile a gap=0", "pile a pack=start", "pile a gap=1,1",
            "grid a", "grid a columns=1", "grid a rows=1", "grid a rows=1 columns=1", "grid a columns= rows=1",
            "grid a columns=1 rows=", "grid a columns=1, rows=1", "grid a columns=,1 rows=1", "grid a columns=1,,1 rows=1",
            "grid a columns=0s rows=1", "grid a columns=s rows=1", "grid a columns=fits rows=1", "grid a columns=Fit rows=1",
            "grid a columns=02s rows=1", "grid a columns=-1 rows=1", "grid a columns=1 rows=1 gap=1",
            "grid a columns=1 rows=1 pack=end", "grid a pack=end columns=1 rows=1", "grid a turn columns=1 rows=1",
            "grid a columns=1 rows=1 lane=2", "grid a columns=1 rows=1 columns=1", "grid a columns=1p rows=1",
            "grid a columns=1 rows=2S", "grid a gap=0 columns=1 rows=1", "grid a stands=stretch columns=1 rows=1",
            "row a spot=0,0,1,1", "words a spot=0,0,1,1 : x", "row a wide=", "row a wide=None", "row a wide=-1",
            "row a wide=01", "row a wide=1000000000000", "row a wide=p", "row a wide=5P", "row a wide=05p", "row a wide=-5p",
            "row a wide=1000000000000p", "row a wide=5pp", "row a wide=a", "row a wide=a.", "row a wide=a.wide",
            "row a wide=a.wide+", "row a wide=a.wide-0", "row a wide=a.wide+00", "row a wide=a.wide+01",
            "row a wide=a.wide--1", "row a wide=a.wide+-1", "row a wide=a.wide+1000000000000", "row a wide=a.wide1",
            "row a wide=a.high+1", "row a wide=a.Wide+1", "row a wide=A.wide+1", "row a wide=.wide+1", "row a wide=a.b.wide+1",
            "row a wide=abcdefghi.wide+1", "row a wide=a.wide-1p", "row a wide=a. wide+1", "row a wide=a.wide +1",
            "row a high=1 wide=1", "row a wide=1 wide=1", "row a least_wide=", "row a least_wide=5p", "row a least_wide=-1",
            "row a most_wide=1 least_wide=1", "row a least_high=1 least_wide=1", "row a grow=0", "row a grow=-1",
            "row a shrink=1", "row a shrink=01", "row a rims=0,0,0,0", "row a rims=1,1,1", "row a rims=1,1,1,1,1",
            "row a rims=1,1,1,", "row a rims=1, 1,1,1", "row a rims=1,1,1,-1", "row a rims=01,1,1,1", "row a rims=(1,1,1,1)",
            "row a stand=", "row a stand=None", "row a stand=between", "row a stand=end grow=1", "row a stand=end stand=end",
            "row a leastwide=1", "row a WIDE=1", "row a wide=1,", "row a x", "row a =1", "row a wide:1",
            ".row a", "..row a", ". row a", "row. a", "row a.", "row .a", "row a\t", "row\ta", "row a\r",
        ):
            self.check_wrong(wrong, 0)
            if "\n" not in wrong and not wrong.startswith("."):
                self.check_wrong("pile top\n.words w : x\n." + wrong + "\n.also wrong", 2)

    def test_right_ones_beside_them(self):
        for right in (
            "words a : : x", "words a :  x", "words a wide=3 : x", "row a wide=a.wide+0", "row a gap=999999999999",
            "picture a 4x3 wide=3", "row a least_wide=0 most_wide=0", "grid a columns=1 rows=1 stand=end",
        ):
            self.assertEqual(show_tree(read_tree(right)), right)

    def test_dots(self):
        self.check_wrong("row a\nwords b : x", 1)
        self.check_wrong("row a\n..words b : x", 1)
        self.check_wrong("row a\n.row b\n...words c : x", 2)
        self.check_wrong("row a\n.row b\n..row c\n.row d\n...row e", 4)
        self.check_wrong("row a\n.row b\nrow c", 2)
        self.check_wrong("row a\n", 1)
        self.check_wrong("\nrow a", 0)
        self.check_wrong("row a\n\n.row b", 1)
        self.check_wrong("row a\n. row b", 1)
        self.check_wrong("row a\n.row b\n.", 2)
        tree = Row("a", [Row("b", [Row("c", [])]), Row("d", [Row("e", [])]), Row("f", [])])
        self.check(tree, "row a\n.row b\n..row c\n.row d\n..row e\n.row f")

    def test_boxes_in_what_is_no_holder(self):
        self.check_wrong("words a : x\n.words b : x", 1)
        self.check_wrong("picture a 4x3\n.row b", 1)
        self.check_wrong("row a\n.words b : x\n..row c", 2)
        self.check_wrong("row a\n.picture b 1x1\n..row c", 2)
        self.check_wrong("pile a\n.row b\n..words c : x\n...words d : x", 3)

    def test_spots(self):
        grid = "grid a columns=1,fit rows=1,2s,3"
        self.check_wrong(grid + "\n.row b", 1)
        self.check_wrong("row a\n.row b spot=0,0,1,1", 1)
        self.check_wrong("pile a\n.words b spot=0,0,1,1 : x", 1)
        self.check_wrong(grid + "\n.row b spot=0,0,1,1\n..row c spot=0,0,1,1", 2)
        for wrong in ("2,0,1,1", "0,3,1,1", "0,0,3,1", "0,0,1,4", "1,0,2,1", "0,2,1,2", "0,0,0,1", "0,0,1,0", "0,0,1",
                      "0,0,1,1,1", "", "0,0,1,-1", "00,0,1,1", "0,0,1,01", "0, 0,1,1", "1000000000000,0,1,1"):
            self.check_wrong(grid + "\n.row b spot=" + wrong, 1)
        self.check_wrong(grid + "\n.row b spot=0,0,1,1\n.row c spot=0,0,1,1", 2)
        self.check_wrong(grid + "\n.row b spot=0,0,2,2\n..row d\n.row c spot=1,1,1,1", 3)
        self.check_wrong(grid + "\n.row b spot=0,0,1,1\n.row c spot=1,0,1,3\n.row d spot=0,1,2,1", 3)
        right = grid + "\n.row b spot=0,0,1,1\n..row e\n.row c spot=1,0,1,3\n.row d spot=0,1,1,2"
        self.assertEqual(show_tree(read_tree(right)), right)
        self.check_wrong("grid a spot=0,0,1,1 columns=1 rows=1", 0)
        self.check_wrong("grid a columns=1 rows=1 spot=0,0,1,1", 0)

    def test_the_first_wrong_line(self):
        self.check_wrong("row a gap=0\n.row b gap=0", 0)
        self.check_wrong("row a\n.words b : x\n..row c\n.row d gap=0", 2)
        self.check_wrong("row a\n.row b\n.row c gap=0\n...row d\nrow e", 2)
        self.check_wrong("row a\n...row d\n.row c gap=0", 1)

    def test_no_tree_behind_no_text(self):
        for text in (
            "row a\n.row a", "row a\n.row b\n..row b", "row a\n.words b : x\n.pile c\n..row b", "row a wide=5p",
            "words a high=0p : ", "row a wide=b.wide+0", "row a\n.words b high=c.tall-1 : x",
        ):
            refused(self, NoTree, read_tree, text)
            self.check_wrong(text + "\n.row c gap=0", text.count("\n") + 1)
            self.check_wrong(text + "\n", text.count("\n") + 1)
        self.check_wrong("row a wide=5p\n.row a\n..row a gap=0", 2)

    def test_a_text_that_is_read_is_just_the_one_that_is_written_of_it(self):
        """Texts with a sign or a word less, more or another are refused at their first wrong line, or read as they are."""
        numbers = Numbers(103)
        read, wrong = 0, 0
        for _ in range(1500):
            tree = some_tree(numbers, 1 + numbers.below(6), 40)
            text = self.spoiled(numbers, show_tree(tree))
            try:
                told = read_tree(text)
            except NoTree:
                continue
            except NoText as error:
                wrong += 1
                lines = text.split("\n")
                self.assertLess(error.line, len(lines))
                self.check_wrong("\n".join(lines[:error.line + 1]), error.line)
                if error.line > 0:
                    self.check_read("\n".join(lines[:error.line]))
                continue
            read += 1
            self.assertEqual(show_tree(told), text)
            self.assertEqual(plain_text(told), text)
        self.assertGreater(read, 100)
        self.assertGreater(wrong, 600)

    def check_read(self, text):
        """It is no wrong text, though it may be no tree."""
        try:
            self.assertEqual(show_tree(read_tree(text)), text)
        except NestError as error:
            self.assertIs(type(error), NoTree)

    def spoiled(self, numbers, text):
        kind = numbers.below(4)
        at = numbers.below(len(text) + 1)
        if kind == 0:
            return text[:at] + text[at + 1:]
        if kind == 1:
            return text[:at] + numbers.one_of(" .:=,|0123456789+-\nabpsx") + text[at:]
        if kind == 2:
            return text[:at] + numbers.one_of(" .:=,|0123456789+-\nabpsx") + text[at + 1:]
        lines = text.split("\n")
        line = numbers.below(len(lines))
        words = lines[line].split(" ")
        one, other = numbers.below(len(words)), numbers.below(len(words))
        words[one], words[other] = words[other], words[one]
        lines[line] = " ".join(words)
        return "\n".join(lines)

    def test_every_order_of_a_styles_words_but_one_is_refused(self):
        words = ["wide=1", "high=2p", "grow=2", "stand=end"]
        for order in itertools.permutations(words):
            text = "row a\n.row b " + " ".join(order)
            if list(order) == words:
                self.assertEqual(show_tree(read_tree(text)), text)
            else:
                self.check_wrong(text, 1)


if __name__ == "__main__":
    unittest.main()
