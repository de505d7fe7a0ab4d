"""What is seen of a tree: places, the box at a cell, the picture drawn, what sticks out, places snapped."""

import fractions
import itertools
import time
import unittest

from forest import all_in, deep_tree, full_tree, names, some_scenes, some_tree, wide_tree
from helper import Hostile, Numbers, is_plain_whole, no_counts, no_texts, odd_things, refused
from nestlaid.boxes import Grid, Picture, Pile, Row, Words
from nestlaid.errors import NoFrame, NoNumber, NoText, NoTree, Ring
from nestlaid.look import box_at, drawn, places, snapped, sticks_out
from nestlaid.settle import settled
from nestlaid.styles import Style
from nestlaid.wording import longest, wrapped
from oracle import InARing, Oracle
from test_rules import one_of, tie
from test_trees import no_trees

BIG = 10 ** 12 - 1


def ring():
    return Row("a", [Words("b", "", style=Style(wide=tie("b")))])


def numbers_of(tree, **frame):
    return {(name, word): number for name, word, number in settled(tree, **frame)}


def inside(box, known):
    """The inside's start and size, across and down."""
    left, right, upper, lower = box.style.rims
    across = (known[box.name, "left"] + left, max(0, known[box.name, "wide"] - left - right))
    return across, (known[box.name, "top"] + upper, max(0, known[box.name, "tall"] - upper - lower))


def plain_places(tree, known):
    return [(box.name, *[known[box.name, word] for word in ("left", "top", "wide", "tall")]) for box, _ in all_in(tree)]


def plain_at(rows, x, y):
    told = [name for name, left, top, wide, tall in rows if left <= x < left + wide and top <= y < top + tall]
    return told[-1] if told else None


def plain_drawn(tree, known, fill="#"):
    """The picture, sign by sign."""
    cells = {}
    for box, holder in all_in(tree):
        (left, wide), (top, tall) = inside(box, known)
        if type(box) is Words:
            for y, line in enumerate(wrapped(box.text, wide)):
                for x, sign in enumerate(line):
                    cells[left + x, top + y] = sign
        elif type(box) is Picture:
            for x, y in itertools.product(range(wide), range(tall)):
                cells[left + x, top + y] = fill
    wide, tall = known[tree.name, "wide"], known[tree.name, "tall"]
    return ["".join([cells.get((x, y), " ") for x in range(wide)]) for y in range(tall)]


def plain_out(tree, known, **frame):
    oracle = Oracle(tree, **frame)

    def get(name, word):
        return known[name, word]

    told = []
    for box, holder in all_in(tree):
        if holder is not None:
            for way, at, ends in (("across", 0, ("left", "wide")), ("down", 1, ("top", "tall"))):
                start, size = inside(holder, known)[at]
                rooms = [(start, start + size)]
                if type(holder) is Grid:
                    first, room = (oracle.its_columns, oracle.its_rows)[at](box, get)
                    rooms.append((start + first, start + first + room))
                low = known[box.name, ends[0]]
                high = low + known[box.name, ends[1]]
                if any(low < room[0] or high > room[1] for room in rooms):
                    told.append((box.name, way))
        if type(box) is Words:
            (left, wide), (top, tall) = inside(box, known)
            lines = wrapped(box.text, wide)
            if len(lines) > tall or [line for line in lines if len(line) > wide]:
                told.append((box.name, "words"))
    return told


class LookCase(unittest.TestCase):
    def check_order(self, asks, *told, **named):
        """NoTree goes first, then NoFrame, then Ring."""
        for wrong in no_trees():
            refused(self, NoTree, asks, wrong, *told, **named, wide=-1)
        refused(self, Ring, asks, ring(), *told, **named)
        for wrong in no_counts():
            refused(self, NoFrame, asks, ring(), *told, **named, wide=wrong)
            refused(self, NoFrame, asks, ring(), *told, **named, wide=wrong, high=-1)
            if wrong is not None:
                refused(self, NoFrame, asks, ring(), *told, **named, high=wrong)

    def check_frames(self, asks, *told):
        tree = Row("a", [Words("b", "the cat sat", style=Style(grow=1)), Picture("c", 4, 3)])
        self.assertEqual(asks(tree, *told), asks(tree, *told, wide=80, high=None))
        self.assertEqual(asks(tree, *told, wide=9), asks(tree, *told, high=None, wide=9))
        self.assertEqual(asks(tree, *told, high=4), asks(tree, *told, wide=80, high=4))
        self.assertEqual(asks(tree, *told, high=0), asks(tree, *told, wide=80, high=0))


class PlacesTest(LookCase):
    def test_by_hand(self):
        tree = Row("m", [Words("z", "the cat", style=Style(grow=1)), Pile("b", [Picture("y", 4, 2)])], gap=1,
                   style=Style(rims=(1, 2, 3, 4)))
        self.assertEqual(places(tree, wide=20), [
            ("m", 0, 0, 20, 9), ("z", 1, 3, 12, 2), ("b", 14, 3, 4, 2), ("y", 14, 3, 4, 2),
        ])
        self.assertEqual(places(tree=tree, high=12, wide=20), [
            ("m", 0, 0, 20, 12), ("z", 1, 3, 12, 5), ("b", 14, 3, 4, 5), ("y", 14, 3, 4, 2),
        ])

    def test_many_trees(self):
        for numbers, tree, frame in some_scenes(81, 150, odds=10):
            try:
                known = Oracle(tree, **frame).settled()
            except InARing:
                refused(self, Ring, places, tree, **frame)
                continue
            told = places(tree, **frame)
            self.assertEqual(told, plain_places(tree, known))
            told.clear()
            self.assertEqual(places(tree, **frame), plain_places(tree, known))

    def test_refused_and_frames(self):
        self.check_order(places)
        self.check_frames(places)


class BoxAtTest(LookCase):
    def test_at_the_ends(self):
        tree = Row("a", [Picture("b", 4, 2), Picture("c", 3, 2)], gap=1, stands="start", style=Style(rims=(1, 0, 1, 0)))
        told = {
            (0, 0): "a", (1, 1): "b", (4, 2): "b", (5, 2): "a", (6, 1): "c", (8, 2): "c", (9, 2): "a", (4, 3): None,
            (19, 2): "a", (20, 2): None, (0, 1): "a", (1, 0): "a", (-1, 0): None, (0, -1): None, (19, 3): None,
        }
        for (x, y), right in told.items():
            self.assertEqual(box_at(tree, x, y, wide=20), right, (x, y))
            self.assertEqual(box_at(y=y, x=x, tree=tree, wide=20), right)
        for far in (BIG, -BIG, 10 ** 30):
            self.assertIsNone(box_at(tree, far, 0))
            self.assertIsNone(box_at(tree, 0, far))

    def test_the_last_one_of_several(self):
        tree = Row("a", [Picture("b", 4, 2), Picture("c", 4, 2)], pack="middle", stands="start")
        self.assertEqual(places(tree, wide=4, high=2)[1:], [("b", -2, 0, 4, 2), ("c", 2, 0, 4, 2)])
        self.assertEqual([box_at(tree, x, 0, wide=4, high=2) for x in range(-3, 7)],
                         [None, "b", "b", "b", "b", "c", "c", "c", "c", None])
        pile = Pile("a", [Words("b", "x", style=Style(high=3)), Words("c", "y", style=Style(high=3))], pack="end")
        self.assertEqual([box_at(pile, 0, y, wide=2, high=2) for y in range(-5, 3)],
                         [None, "b", "b", "b", "c", "c", "c", None])
        grid = Grid("a", [Picture("b", 5, 1), Picture("c", 5, 1)], [(0, 0, 1, 1), (1, 0, 1, 1)], columns=[2, 2], rows=[1])
        self.assertEqual([box_at(grid, x, 0, wide=4) for x in range(5)], ["b", "b", "c", "c", None])

    def test_a_box_without_cells(self):
        tree = Row("a", [Words("b", ""), Words("c", "xy")])
        self.assertEqual(box_at(tree, 0, 0), "c")
        self.assertIsNone(box_at(tree, 0, 0, wide=0, high=0))
        self.assertIsNone(box_at(Words("a", "x"), 0, 0, wide=0))

    def test_many_trees(self):
        for numbers, tree, frame in some_scenes(82, 60, odds=8):
            try:
                rows = plain_places(tree, Oracle(tree, **frame).settled())
            except InARing:
                refused(self, Ring, box_at, tree, 0, 0, **frame)
                continue
            ends = sorted({left + k for _, left, top, wide, tall in rows for k in (-1, 0, wide - 1, wide)})
            rims = sorted({top + k for _, left, top, wide, tall in rows for k in (-1, 0, tall - 1, tall)})
            for _ in range(25):
                x, y = numbers.one_of(ends), numbers.one_of(rims)
                self.assertEqual(box_at(tree, x, y, **frame), plain_at(rows, x, y))

    def test_refused(self):
        self.check_order(box_at, 0, 0)
        self.check_frames(box_at, 3, 0)
        for wrong in [x for x in odd_things() if not is_plain_whole(x)]:
            refused(self, NoNumber, box_at, ring(), wrong, 0, wide=-1)
            refused(self, NoNumber, box_at, ring(), 0, wrong, wide=-1, high=-1)
            refused(self, NoNumber, box_at, ring(), wrong, wrong)
            refused(self, NoTree, box_at, None, wrong, Hostile())


class DrawnTest(LookCase):
    def test_words(self):
        self.assertEqual(drawn(Words("a", "the cat sat\non"), wide=8), ["the cat ", "sat     ", "on      "])
        self.assertEqual(drawn(Words("a", "the cat", style=Style(rims=(1, 2, 1, 0))), wide=10, high=4),
                         [" " * 10, " the cat  ", " " * 10, " " * 10])
        self.assertEqual(drawn(Words("a", ""), wide=3), ["   "])
        self.assertEqual(drawn(Words("a", "x"), wide=0), [""])
        self.assertEqual(drawn(Words("a", "x y"), wide=0), ["", ""])
        self.assertEqual(drawn(Words("a", "x"), high=0), [])

    def test_words_longer_than_their_box(self):
        self.assertEqual(drawn(Words("a", "longword x"), wide=4, high=1), ["long"])
        tree = Row("r", [Words("a", "longword", style=Style(wide=3, shrink=0)), Words("b", "z")], gap=1)
        self.assertEqual(drawn(tree, wide=12), ["longzord    "])
        tree = Row("r", [Words("a", "longword", style=Style(wide=3, shrink=0)), Words("b", "y z")], gap=1)
        self.assertEqual(drawn(tree, wide=12), ["longy zd    "])

    def test_words_higher_than_their_box(self):
        tree = Pile("p", [Words("a", "x\ny\nz", style=Style(high=1)), Words("b", "q")])
        self.assertEqual(drawn(tree, wide=2), ["x ", "q "])
        self.assertEqual(drawn(tree, wide=2, high=4), ["x ", "q ", "z ", "  "])

    def test_later_ones_are_drawn_over_earlier_ones_blanks_too(self):
        picture, words = Picture("b", 4, 1, style=Style(wide=4)), Words("c", "x y", style=Style(wide=3))
        told = {"columns": [2, 2], "rows": [1]}
        tree = Grid("a", [picture, words], [(0, 0, 1, 1), (1, 0, 1, 1)], **told)
        self.assertEqual(drawn(tree, wide=6), ["##x y "])
        tree = Grid("a", [words, picture], [(1, 0, 1, 1), (0, 0, 1, 1)], **told)
        self.assertEqual(drawn(tree, wide=6), ["####y "])
        tree = Grid("a", [words, picture], [(0, 0, 1, 1), (1, 0, 1, 1)], **told)
        self.assertEqual(drawn(tree, wide=6), ["x ####"])
        # Behind the last sign of a line nothing is drawn.
        words = Words("c", "x", style=Style(wide=3))
        tree = Grid("a", [picture, words], [(0, 0, 1, 1), (1, 0, 1, 1)], **told)
        self.assertEqual(drawn(tree, wide=6), ["##x#  "])

    def test_pictures(self):
        tree = Picture("a", 4, 2, style=Style(rims=(1, 1, 1, 0)))
        self.assertEqual(drawn(tree, wide=6), ["      ", " #### ", " #### "])
        self.assertEqual(drawn(tree, wide=6, high=5, fill="@"), ["      "] + [" @@@@ "] * 4)
        self.assertEqual(drawn(tree, wide=2), ["  "])
        self.assertEqual(drawn(Picture("a", 1, 1), wide=3, fill="|"), ["|||"] * 3)

    def test_each_sign_that_fills(self):
        for code in range(32, 127):
            self.assertEqual(drawn(Picture("a", 2, 1), wide=2, fill=chr(code)), [chr(code) * 2])

    def test_what_lies_outside_is_not_drawn(self):
        row = [Picture("b", 4, 2), Picture("c", 4, 2)]
        self.assertEqual(drawn(Row("a", row, pack="middle", stands="start"), wide=4, high=1), ["####"])
        row = [Words("b", "abcd"), Words("c", "efgh")]
        self.assertEqual(drawn(Row("a", row, pack="middle", gap=2), wide=4, high=1), ["d  e"])
        self.assertEqual(drawn(Row("a", row, pack="end", gap=2), wide=5, high=2), [" efgh", "     "])
        pile = Pile("a", [Words("b", "a\nb\nc"), Words("c", "d\ne\nf")], pack="middle", gap=1)
        self.assertEqual(drawn(pile, wide=1, high=3), ["c", " ", "d"])
        self.assertEqual(drawn(pile, wide=1, high=1), [" "])

    def test_many_trees(self):
        seen = 0
        for numbers, tree, frame in some_scenes(83, 120, odds=8):
            frame["wide"] = min(60, frame["wide"])
            try:
                known = Oracle(tree, **frame).settled()
            except InARing:
                refused(self, Ring, drawn, tree, **frame)
                continue
            fill = numbers.one_of("#|~ x")
            told = drawn(tree, **frame, fill=fill)
            self.assertEqual(told, plain_drawn(tree, known, fill))
            self.assertEqual(drawn(fill=fill, tree=tree, **frame), told)
            seen += len(told)
        self.assertGreater(seen, 300)

    def test_a_thousand_cells(self):
        box = Picture("a", 1, 1)
        self.assertEqual(drawn(box, wide=1000), ["#" * 1000] * 1000)
        rows = [Picture(name, 1000, 1000, style=Style(shrink=0)) for name in names(39)]
        began = time.monotonic()
        self.assertEqual(drawn(Row("top", rows, pack="end"), wide=1000, high=1000), ["#" * 1000] * 1000)
        boxes = [Words(name, "x " * 200, style=Style(wide=0, high=25)) for name in names(39)]
        told = drawn(Pile("top", boxes), wide=1000, high=1000)
        self.assertEqual(told, ["x".ljust(1000)] * 1000)
        self.assertLess(time.monotonic() - began, 60)

    def test_boxes_far_bigger_than_the_first_one(self):
        tree = Row("a", [Picture("b", BIG, BIG, style=Style(shrink=0))], pack="middle")
        self.assertEqual(drawn(tree, wide=3, high=2), ["###", "###"])
        tree = Row("a", [Picture("b", 5, 5), Words("c", "x")], gap=BIG)
        self.assertEqual(drawn(tree, wide=7, high=1), ["#####  "])

    def test_refused(self):
        self.check_order(drawn)
        self.check_frames(drawn)
        for wrong in no_texts() + ["", "ab", "\n", "##", "#\n", "a\n"]:
            refused(self, NoText, drawn, Picture("a", 1, 1), wide=2, fill=wrong)
            refused(self, NoText, drawn, ring(), fill=wrong)
            refused(self, NoFrame, drawn, ring(), fill=wrong, wide=-1)
            refused(self, NoTree, drawn, None, fill=wrong)
        self.assertEqual(refused(self, NoText, drawn, ring(), fill=None).line, 0)


class SticksOutTest(LookCase):
    def test_across(self):
        row = [Picture("b", 4, 1, style=Style(shrink=0)), Picture("c", 4, 1, style=Style(shrink=0))]
        for pack, right in (("start", ["c"]), ("end", ["b"]), ("middle", ["b"]), ("between", ["c"])):
            tree = Row("a", row, pack=pack, style=Style(rims=(2, 3, 0, 0)))
            self.assertEqual(sticks_out(tree, wide=12, high=2), [(name, "across") for name in right])
            self.assertEqual(sticks_out(tree, wide=13, high=2), [])
        tree = Row("a", row, pack="middle")
        self.assertEqual(sticks_out(tree, wide=6, high=2), [("b", "across"), ("c", "across")])

    def test_across_the_holders_inside_not_its_box(self):
        tree = Pile("a", [Words("b", "abcde", style=Style(wide=5))], style=Style(rims=(1, 1, 0, 0)))
        self.assertEqual(sticks_out(tree, wide=6), [("b", "across")])
        self.assertEqual(sticks_out(tree, wide=7), [])
        tree = Pile("a", [Words("b", "", style=Style(wide=0))], style=Style(rims=(9, 9, 0, 0)))
        self.assertEqual(sticks_out(tree, wide=3), [])

    def test_down(self):
        tree = Pile("a", [Words("b", "x", style=Style(high=3)), Words("c", "y", style=Style(high=3))], pack="end",
                    style=Style(rims=(0, 0, 1, 1)))
        self.assertEqual(sticks_out(tree, wide=5, high=7), [("b", "down")])
        self.assertEqual(sticks_out(tree, wide=5, high=8), [])
        self.assertEqual(sticks_out(tree, wide=5, high=4), [("b", "down"), ("c", "down")])

    def test_words(self):
        self.assertEqual(sticks_out(Words("a", "longword x"), wide=7), [("a", "words")])
        self.assertEqual(sticks_out(Words("a", "longword x"), wide=8), [])
        self.assertEqual(sticks_out(Words("a", "x x x"), wide=1, high=2), [("a", "words")])
        self.assertEqual(sticks_out(Words("a", "x x x"), wide=1, high=3), [])
        self.assertEqual(sticks_out(Words("a", ""), wide=0), [])
        self.assertEqual(sticks_out(Words("a", ""), high=0), [("a", "words")])

    def test_the_first_box_sticks_out_of_nothing(self):
        for kind in (Words, Picture, Row, Pile, Grid):
            box = one_of(kind, "a", [], wide=90, high=90, rims=(1, 1, 1, 1))
            told = sticks_out(box, wide=1, high=1)
            self.assertEqual(told, [("a", "words")] if kind is Words else [])

    def test_the_order_of_boxes_and_ways(self):
        style = Style(wide=9, high=9)
        tree = Pile("m", [Words("z", "longestwords", style=style), Pile("b", [Words("y", "x", style=Style(wide=9, high=0))])])
        self.assertEqual(sticks_out(tree, wide=5, high=5), [
            ("z", "across"), ("z", "down"), ("z", "words"), ("b", "down"), ("y", "across"), ("y", "words"),
        ])

    def test_in_a_grid_by_columns_and_rows_too(self):
        style = Style(wide=3, high=3, stand="start")
        boxes = [Picture("b", 1, 1, style=style), Picture("c", 1, 1, style=style)]
        told = {"columns": [2, 9], "rows": [2, 9]}
        tree = Grid("a", boxes, [(0, 0, 1, 1), (1, 1, 1, 1)], **told)
        self.assertEqual(sticks_out(tree, wide=20, high=20), [("b", "across"), ("b", "down")])
        self.assertEqual(sticks_out(tree, wide=4, high=4), [("b", "across"), ("b", "down"), ("c", "across"), ("c", "down")])
        tree = Grid("a", boxes[:1], [(0, 0, 2, 2)], gap=1, lane=1, columns=[1, 1], rows=[1, 1])
        self.assertEqual(sticks_out(tree, wide=20, high=20), [])
        self.assertEqual(sticks_out(tree, wide=2, high=20), [("b", "across")])
        self.assertEqual(sticks_out(tree, wide=20, high=2), [("b", "down")])
        tree = Grid("a", [Picture("b", 1, 1, style=Style(wide=3, high=3, stand="end"))], [(1, 1, 1, 1)], columns=[5, 2],
                    rows=[5, 2])
        self.assertEqual(sticks_out(tree, wide=20, high=20), [("b", "across"), ("b", "down")])

    def test_many_trees(self):
        ways = set()
        for numbers, tree, frame in some_scenes(84, 250, odds=10):
            try:
                known = Oracle(tree, **frame).settled()
            except InARing:
                refused(self, Ring, sticks_out, tree, **frame)
                continue
            told = sticks_out(tree, **frame)
            self.assertEqual(told, plain_out(tree, known, **frame))
            self.assertEqual(sticks_out(tree=tree, **frame), told)
            ways |= {way for name, way in told}
            told.clear()
            self.assertEqual(sticks_out(tree, **frame), plain_out(tree, known, **frame))
        self.assertEqual(ways, {"across", "down", "words"})

    def test_where_nothing_sticks_out(self):
        """No two boxes of which none lies in the other have a cell in common, and each line stands in the picture."""
        seen = 0
        numbers = Numbers(85)
        for _ in range(400):
            tree = some_tree(numbers, 2 + numbers.below(9), 0)
            frame = {"wide": numbers.one_of((20, 40, 80)), "high": numbers.one_of((None, 40))}
            if sticks_out(tree, **frame):
                continue
            seen += 1
            rows = {row[0]: row[1:] for row in places(tree, **frame)}
            around = {}
            for box, holder in all_in(tree):
                around[box.name] = around[holder.name] | {holder.name} if holder else set()
            for one, other in itertools.combinations(rows, 2):
                if one not in around[other] and other not in around[one]:
                    self.assertFalse(self.meet(rows[one], rows[other]))
            picture = drawn(tree, **frame)
            known = numbers_of(tree, **frame)
            for box, holder in all_in(tree):
                if type(box) is Words:
                    (left, wide), (top, tall) = inside(box, known)
                    for at, line in enumerate(wrapped(box.text, wide)):
                        self.assertEqual(picture[top + at][left:left + len(line)], line)
        self.assertGreater(seen, 60)

    def meet(self, one, other):
        across = range(max(one[0], other[0]), min(one[0] + one[2], other[0] + other[2]))
        down = range(max(one[1], other[1]), min(one[1] + one[3], other[1] + other[3]))
        return len(across) > 0 and len(down) > 0

    def test_refused(self):
        self.check_order(sticks_out)
        self.check_frames(sticks_out)


class JustWideEnoughTest(unittest.TestCase):
    """Point 39: nothing sticks out across just where the frame is no less wide than the plain sum of leasts."""

    def plain_least(self, box):
        rims = box.style.rims[0] + box.style.rims[1]
        if type(box) is Words:
            return rims + longest(box.text)
        leasts = [self.plain_least(inner) for inner in box.boxes]
        if type(box) is Row and not box.turn:
            return rims + box.gap * (len(leasts) - 1) + sum(leasts)
        return rims + max(leasts)

    def some_plain_tree(self, numbers, depth, left):
        """Words with a word at least, rows and piles with a box at least, without told sizes, leasts and mosts."""
        name = left.pop()
        style = Style(grow=numbers.below(3), shrink=1 + numbers.below(3), rims=tuple(numbers.below(3) for _ in range(4)),
                      stand=numbers.one_of((None, "start", "end", "middle", "stretch", "base")))
        kind = numbers.one_of((Words, Row, Pile)) if depth < 5 and len(left) > 4 else Words
        if kind is Words:
            text = numbers.one_of(("a", "the cat", "longword x\n\ny", " story of a cat ", "x y z x y z"))
            return Words(name, text, style=style)
        boxes = [self.some_plain_tree(numbers, depth + 1, left)]
        while numbers.below(3) and len(left) > 4:
            boxes.append(self.some_plain_tree(numbers, depth + 1, left))
        told = {"gap": numbers.below(3), "pack": numbers.one_of(("start", "end", "middle", "between")),
                "stands": numbers.one_of(("start", "end", "middle", "stretch", "base")), "style": style}
        if kind is Pile:
            return Pile(name, boxes, **told)
        return Row(name, boxes, turn=numbers.one_of((True, False)), lane=numbers.below(3), **told)

    def fits(self, tree, wide):
        """Nothing sticks out across, and no word is longer than its box's inside."""
        if [name for name, way in sticks_out(tree, wide=wide) if way == "across"]:
            return False
        known = numbers_of(tree, wide=wide)
        boxes = [box for box, holder in all_in(tree) if type(box) is Words]
        return all(longest(box.text) <= inside(box, known)[0][1] for box in boxes)

    def test_just_where_it_is_wide_enough(self):
        numbers = Numbers(86)
        for _ in range(150):
            tree = self.some_plain_tree(numbers, 0, names(14))
            least = self.plain_least(tree)
            for wide in (0, 1, least - 1, least, least + 1, least + 7, 2 * least, 200):
                if wide >= 0:
                    self.assertEqual(self.fits(tree, wide), wide >= least, (least, wide))


class SnappedTest(unittest.TestCase):
    def nearest(self, end, scale):
        exact = fractions.Fraction(*scale) * end
        low = exact.numerator // exact.denominator
        return low if exact - low < fractions.Fraction(1, 2) else low + 1

    def plain(self, some, scale):
        rows = []
        for name, left, top, wide, tall in some:
            x, y = self.nearest(left, scale), self.nearest(top, scale)
            rows.append((name, x, y, self.nearest(left + wide, scale) - x, self.nearest(top + tall, scale) - y))
        return rows

    def test_by_hand(self):
        some = [("a", 0, 0, 10, 3), ("b", 1, -1, 4, 2), ("c", 5, 1, 1, 0)]
        self.assertEqual(snapped(some), some)
        self.assertEqual(snapped(some, scale=(3, 1)), [("a", 0, 0, 30, 9), ("b", 3, -3, 12, 6), ("c", 15, 3, 3, 0)])
        self.assertEqual(snapped(some, scale=(1, 2)), [("a", 0, 0, 5, 2), ("b", 1, 0, 2, 1), ("c", 3, 1, 0, 0)])
        self.assertEqual(snapped(scale=(2, 3), some=some), [("a", 0, 0, 7, 2), ("b", 1, -1, 2, 2), ("c", 3, 1, 1, 0)])
        self.assertEqual(snapped([], scale=(2, 3)), [])

    def test_ends_just_between_two(self):
        for left, right in ((-3, -1), (-1, 0), (1, 1), (3, 2), (5, 3), (-5, -2)):
            self.assertEqual(snapped([("a", left, left, 0, 0)], scale=(1, 2)), [("a", right, right, 0, 0)])
            self.assertEqual(snapped([("a", left, left, 2, 4)], scale=(1, 2)), [("a", right, right, 1, 2)])

    def test_many(self):
        numbers = Numbers(87)
        for _ in range(300):
            some = []
            for name in names(numbers.below(5)):
                some.append((name, numbers.below(99) - 50, numbers.below(99) - 50, numbers.below(30), numbers.below(30)))
            scale = (1 + numbers.below(9), 1 + numbers.below(9))
            before = list(some)
            self.assertEqual(snapped(some, scale=scale), self.plain(some, scale))
            self.assertEqual(some, before)
            some = [("a", -BIG, BIG, BIG, 3 * BIG)]
            scale = (1 + numbers.of_figures(12), 1 + numbers.of_figures(12))
            self.assertEqual(snapped(some, scale=scale), self.plain(some, scale))

    def test_what_touched_touches_and_what_lay_within_lies_within(self):
        numbers = Numbers(88)
        for _ in range(200):
            start, wide, more = numbers.below(99) - 50, numbers.below(30), numbers.below(30)
            scale = (1 + numbers.below(9), 1 + numbers.below(9))
            some = [("a", start, 0, wide, 1), ("b", start + wide, 0, more, 1), ("c", start, 0, wide + more, 1)]
            a, b, c = snapped(some, scale=scale)
            self.assertEqual(a[1] + a[3], b[1])
            self.assertEqual(b[1] + b[3], c[1] + c[3])
            self.assertTrue(c[1] <= b[1] and min(a[3], b[3], c[3]) >= 0)

    def test_the_list_is_the_askers_own(self):
        some = [("a", 0, 0, 10, 3)]
        told = snapped(some)
        self.assertIsNot(told, some)
        told.clear()
        self.assertEqual(some, [("a", 0, 0, 10, 3)])

    def test_of_places(self):
        tree = Row("a", [Words("b", "the cat"), Picture("c", 4, 3)], gap=1)
        self.assertEqual(snapped(places(tree), scale=(1, 2)), self.plain(places(tree), (1, 2)))

    def test_refused(self):
        wrongs = odd_things() + [(), (1,), (1, 2, 3), [1, 2], (0, 1), (1, 0), (-1, 1), (1, -1), "12", (1, None)]
        wrongs += [(1, True), (1.0, 1), (Hostile(), 1), (1, Hostile()), ("1", "2"), ((1, 1), 1)]
        for wrong in [x for x in wrongs if type(x) is not tuple or repr(x) != "(1, 2)"]:
            refused(self, NoNumber, snapped, [("a", 0, 0, 10, 3)], scale=wrong)
            refused(self, NoNumber, snapped, [], scale=wrong)


class LimitsTest(unittest.TestCase):
    def test_trees_at_the_limits(self):
        numbers = Numbers(89)
        began = time.monotonic()
        trees = [full_tree(40, numbers), full_tree(48, numbers), deep_tree(10), deep_tree(14)]
        trees += [wide_tree(many, kind) for many in (20, 24) for kind in (Row, "turn", Pile, Grid)]
        for tree in trees:
            for frame in ({}, {"wide": 300, "high": 120}, {"wide": 7}):
                known = Oracle(tree, **frame).settled()
                self.assertEqual(places(tree, **frame), plain_places(tree, known))
                self.assertEqual(drawn(tree, **frame), plain_drawn(tree, known))
                self.assertEqual(sticks_out(tree, **frame), plain_out(tree, known, **frame))
                self.assertEqual(box_at(tree, 3, 2, **frame), plain_at(plain_places(tree, known), 3, 2))
        self.assertLess(time.monotonic() - began, 120)

    def test_numbers_of_twelve_figures(self):
        tree = Row("a", [Picture("b", BIG, 1), Words("c", "x")], gap=BIG, style=Style(rims=(BIG, 0, 0, 0)))
        self.assertEqual(places(tree, wide=BIG, high=3)[1:], [("b", BIG, 0, BIG, 3), ("c", 3 * BIG, 0, 1, 3)])
        self.assertEqual(box_at(tree, 3 * BIG, 2, wide=BIG, high=3), "c")
        self.assertEqual(sticks_out(tree, wide=BIG, high=3), [("b", "across"), ("c", "across")])


if __name__ == "__main__":
    unittest.main()
