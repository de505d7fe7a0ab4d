"""All numbers of a tree: asked, settled, or in a ring; the longest row; passes."""

import itertools
import time
import unittest

from forest import STANDS, WORDS, all_in, deep_tree, full_tree, names, some_scenes, wide_tree
from helper import Hostile, Numbers, no_counts, refused
from nestlaid.boxes import Grid, Picture, Pile, Row, Words
from nestlaid.errors import NoFrame, NoTree, Ring
from nestlaid.rules import by_rule, needs
from nestlaid.settle import asked, longest_row, passes, settled
from nestlaid.styles import Style
from oracle import InARing, Oracle
from test_rules import keyed, one_of, tie
from test_trees import no_trees

BIG = 10 ** 12 - 1
PART = ("part", 500)


def plain_passes(tree, begin, **frame):
    """Passes as the document tells them: all numbers anew in each."""
    oracle = Oracle(tree, **frame)
    numbers = {key: begin.get(key, 0) for key in oracle.asked()}
    for many in range(1000):
        new = {key: oracle.by_rule(*key, numbers) for key in numbers}
        if new == numbers:
            return many, numbers
        numbers = new


class SettleCase(unittest.TestCase):
    def check_ring(self, tree, ring, **frame):
        """It is a ring of asked numbers."""
        self.assertIs(type(ring), list)
        self.assertGreater(len(ring), 0)
        self.assertEqual(len(ring), len(set(ring)))
        self.assertLessEqual(set(ring), set(asked(tree, **frame)))
        for one, other in zip(ring, ring[1:] + ring[:1]):
            self.assertIn(other, needs(tree, *one, **frame))

    def check_refused(self, tree, **frame):
        """All that tells numbers refuses the tree with a ring; asked doesn't."""
        for error in (
            refused(self, Ring, settled, tree, **frame), refused(self, Ring, longest_row, tree, **frame),
            refused(self, Ring, passes, tree, {}, **frame),
        ):
            self.check_ring(tree, error.ring, **frame)
        self.assertEqual(asked(tree, **frame), Oracle(tree, **frame).asked())

    def check_settled(self, tree, **frame):
        """Each asked number once, behind all that it needs, as its rule tells it by those ahead."""
        told = settled(tree, **frame)
        self.assertIs(type(told), list)
        known = {}
        for name, word, number in told:
            ahead = {need: known[need] for need in needs(tree, name, word, **frame)}
            self.assertEqual(by_rule(tree, name, word, ahead, **frame), number)
            self.assertNotIn((name, word), known)
            known[name, word] = number
        self.assertEqual(set(known), set(asked(tree, **frame)))
        return known


class AskedTest(SettleCase):
    def test_of_one_box(self):
        self.assertEqual(asked(Words("a", "x")), [("a", word) for word in ("wide", "flow", "rise", "tall", "left", "top")])
        self.assertEqual(asked(Words("a", "x"), high=3), [("a", word) for word in ("wide", "tall", "left", "top")])
        told = Words("a", "x", style=Style(high=4, wide=9))
        self.assertEqual(asked(told), [("a", word) for word in ("wide", "rise", "tall", "left", "top")])
        self.assertEqual(asked(Row("a", [])), [("a", word) for word in ("wide", "flow", "rise", "tall", "left", "top")])

    def test_of_a_tie(self):
        tree = Words("a", "x", style=Style(high=tie("a", "wide")))
        self.assertEqual(asked(tree), [("a", word) for word in ("wide", "rise", "tall", "left", "top")])

    def test_the_order_of_names_and_of_words(self):
        tree = Row("m", [Words("z", "x"), Words("b", "y", style=Style(stand="base"))])
        self.assertEqual(asked(tree), [
            ("m", "wide"), ("m", "flow"), ("m", "rise"), ("m", "tall"), ("m", "left"), ("m", "top"),
            ("z", "least"), ("z", "wish"), ("z", "wide"), ("z", "flow"), ("z", "rise"), ("z", "tall"), ("z", "left"),
            ("z", "top"),
            ("b", "least"), ("b", "wish"), ("b", "wide"), ("b", "flow"), ("b", "rise"), ("b", "tall"), ("b", "base"),
            ("b", "left"), ("b", "top"),
        ])

    def test_a_pile_that_stretches_asks_for_no_wish(self):
        tree = Pile("a", [Words("b", "x")])
        self.assertEqual([key for key in asked(tree) if key[1] in ("wish", "least", "base")], [])

    def test_many_trees(self):
        for numbers, tree, frame in some_scenes(61, 300):
            told = asked(tree, **frame)
            self.assertEqual(told, Oracle(tree, **frame).asked())
            self.assertEqual(asked(tree=tree, **frame), told)
            told.clear()
            self.assertEqual(asked(tree, **frame), Oracle(tree, **frame).asked())


class SettledTest(SettleCase):
    def check_numbers(self, tree, right, **frame):
        """Among the settled numbers are these."""
        known = self.check_settled(tree, **frame)
        for key, number in keyed(right).items():
            self.assertEqual(known[key], number, key)

    def test_one_box(self):
        tree = Words("a", "the cat sat", style=Style(rims=(1, 1, 1, 1)))
        self.check_numbers(tree, {"a.wide": 9, "a.flow": 4, "a.rise": 4, "a.tall": 4, "a.left": 0, "a.top": 0}, wide=9)
        self.check_numbers(tree, {"a.wide": 80, "a.tall": 3})
        self.check_numbers(tree, {"a.wide": 80, "a.tall": 9}, high=9)

    def test_a_page(self):
        head = Words("head", "the cats sat", style=Style(grow=1))
        side = Pile("side", [Picture("face", 4, 3), Words("foot", "a b c")], gap=1, style=Style(wide=PART, shrink=0))
        tree = Row("page", [head, side], gap=2, style=Style(rims=(1, 1, 1, 1)))
        self.check_numbers(tree, {
            "page.wide": 22, "page.tall": 18, "head.left": 1, "head.top": 1, "head.wide": 8, "head.tall": 16,
            "side.left": 11, "side.top": 1, "side.wide": 10, "side.tall": 16, "face.left": 11, "face.top": 1,
            "face.wide": 10, "face.tall": 7, "foot.left": 11, "foot.top": 9, "foot.wide": 10, "foot.tall": 1,
        }, wide=22, high=18)
        self.check_numbers(tree, {"page.tall": 11, "side.tall": 9, "foot.top": 9}, wide=22)

    def test_words_in_a_row_that_turns(self):
        boxes = [Words(name, text) for name, text in zip("bcd", ("the cat", "sat on", "the mat"))]
        tree = Row("a", boxes, turn=True, gap=1, lane=1, pack="end", style=Style(rims=(0, 0, 0, 2)))
        self.check_numbers(tree, {
            "a.tall": 5, "b.left": 1, "b.top": 0, "c.left": 9, "c.top": 0, "d.left": 8, "d.top": 2, "d.wide": 7,
        }, wide=15)
        self.check_numbers(tree, {"a.tall": 3, "d.left": 58}, wide=65)

    def test_a_grid(self):
        boxes = [Words("b", "key"), Words("c", "a long story"), Picture("d", 2, 1)]
        tree = Grid("a", boxes, [(0, 0, 1, 1), (1, 0, 1, 1), (0, 1, 2, 1)], columns=["fit", ("share", 1)],
                    rows=["fit", ("share", 1)], gap=1, lane=1, style=Style(rims=(1, 1, 0, 0)))
        self.check_numbers(tree, {
            "a.wide": 12, "a.tall": 8, "b.left": 1, "b.wide": 3, "b.tall": 2, "c.left": 5, "c.wide": 6, "c.tall": 2,
            "d.left": 1, "d.top": 3, "d.wide": 10, "d.tall": 5,
        }, wide=12)

    def test_ties_across_the_tree(self):
        tree = Row("a", [
            Pile("b", [Words("c", "the cat")], style=Style(wide=tie("e", "wide", 2))),
            Pile("d", [Words("e", "story", style=Style(wide=5, high=tie("c", "tall", 3)))]),
        ])
        right = {"e.wide": 5, "b.wide": 7, "b.tall": 9, "c.tall": 1, "e.tall": 4, "e.rise": 4}
        self.check_numbers(tree, right, wide=40, high=9)

    def test_each_box_in_words_of_twelve_figures(self):
        tree = Row("a", [Picture("b", BIG, BIG), Words("c", "x", style=Style(wide=BIG, high=("part", BIG), shrink=BIG))],
                   gap=BIG, style=Style(rims=(BIG, BIG, BIG, BIG)))
        known = self.check_settled(tree, wide=BIG, high=BIG)
        self.assertEqual(known, Oracle(tree, wide=BIG, high=BIG).settled())
        self.assertEqual(known["c", "left"], 3 * BIG)

    def test_many_trees(self):
        rings = 0
        for numbers, tree, frame in some_scenes(62, 400, odds=12):
            try:
                right = Oracle(tree, **frame).settled()
            except InARing:
                self.check_refused(tree, **frame)
                rings += 1
                continue
            self.assertEqual(self.check_settled(tree, **frame), right)
            self.assertEqual(settled(tree=tree, **frame), settled(tree, **frame))
        self.assertGreater(rings, 20)
        self.assertLess(rings, 300)

    def test_the_list_is_the_askers_own(self):
        tree = Row("a", [Words("b", "")])
        told = settled(tree)
        right = list(told)
        told.clear()
        self.assertEqual(settled(tree), right)

    def test_frames_left_out(self):
        tree = Row("a", [Words("b", "x", style=Style(grow=1))])
        for asks in (asked, settled, longest_row, lambda *told, **named: passes(*told, {}, **named)):
            self.assertEqual(asks(tree), asks(tree, wide=80, high=None))
            self.assertEqual(asks(tree, wide=7), asks(tree, wide=7, high=None))
            self.assertEqual(asks(tree, high=7), asks(tree, wide=80, high=7))


class RingTest(SettleCase):
    def test_a_tie_to_oneself(self):
        for holder in (Row, Pile, Grid, "turn"):
            self.check_refused(one_of(holder, "a", [one_of(Words, "b", [], wide=tie("b"))]))
            self.check_refused(one_of(holder, "a", [one_of(Words, "b", [], high=tie("b", "tall"))]))
        # Of the first box the wish isn't asked, so nothing needs it.
        self.check_settled(Words("a", "x", style=Style(wide=tie("a"))))
        self.check_refused(Words("a", "x", style=Style(high=tie("a", "tall"))))
        self.check_settled(Words("a", "x", style=Style(high=tie("a", "tall"))), high=3)

    def test_ties_to_one_another(self):
        boxes = [Words("b", "", style=Style(wide=tie("c"))), Words("c", "", style=Style(wide=tie("b")))]
        for tree in (Row("a", boxes), Pile("a", boxes), one_of(Grid, "a", boxes)):
            self.check_refused(tree)
            self.check_refused(tree, high=4)

    def test_a_part_in_a_holder_without_a_told_wide(self):
        inner = Words("c", "the cat", style=Style(wide=PART))
        for kind, holder in itertools.product((Row, Pile, Grid, "turn"), (Row, Grid, "turn")):
            self.check_refused(one_of(holder, "a", [one_of(kind, "b", [inner])]))
            self.check_refused(one_of(holder, "a", [one_of(kind, "b", [inner], least_wide=3, most_wide=9)]))
            self.check_settled(one_of(holder, "a", [one_of(kind, "b", [inner], wide=9)]))
            self.check_settled(one_of(holder, "a", [one_of(kind, "b", [inner], wide=PART)]))
        for kind, stand in itertools.product((Row, Pile, Grid, "turn"), STANDS):
            tree = one_of(Pile, "a", [one_of(kind, "b", [inner], stand=stand)])
            if stand == "stretch":
                self.check_settled(tree)
            else:
                self.check_refused(tree)
            self.check_settled(one_of(Pile, "a", [one_of(kind, "b", [inner], stand=stand, wide=7)]))

    def test_a_part_down(self):
        inner = Words("c", "the cat", style=Style(high=PART))
        self.check_refused(Pile("a", [inner]))
        self.check_settled(Pile("a", [inner]), high=9)
        self.check_refused(Row("a", [inner]))
        self.check_settled(Row("a", [inner]), high=9)
        self.check_settled(Pile("a", [Row("b", [inner], style=Style(high=6))]))

    def test_the_ring_is_one_among_more_numbers(self):
        boxes = [Words("b", "", style=Style(wide=tie("c"))), Words("c", "", style=Style(wide=tie("b")))]
        tree = Pile("top", [Words("x", "the cat"), Row("r", [Pile("a", boxes), Words("y", "", style=Style(high=tie("b")))])])
        error = refused(self, Ring, settled, tree)
        self.check_ring(tree, error.ring)
        error.ring.clear()
        self.check_ring(tree, refused(self, Ring, settled, tree).ring)

    def test_a_ring_of_numbers_that_are_not_asked_is_none(self):
        self.check_settled(Pile("a", [Words("b", "", style=Style(wide=tie("c"))), Words("c", "")]))
        tree = Row("a", [Words("b", "")], style=Style(wide=tie("b"), high=tie("b", "tall")))
        self.check_settled(tree, high=5)

    def test_long_rings(self):
        for many in (3, 20, 39):
            told = names(many)
            boxes = [Words(name, "", style=Style(wide=tie(told[at - 1]))) for at, name in enumerate(told)]
            tree = Pile("top", boxes)
            error = refused(self, Ring, settled, tree)
            self.check_ring(tree, error.ring)
            self.assertEqual(len(error.ring), 2 * many)


class LongestRowTest(SettleCase):
    def test_by_hand(self):
        self.assertEqual(longest_row(Words("a", "x"), high=3), 1)
        # tall, rise, flow, wide
        self.assertEqual(longest_row(Words("a", "x")), 4)
        self.assertEqual(longest_row(Words("a", "x", style=Style(high=2))), 2)
        # b: top, tall, then a: tall, rise, flow, then b: rise, flow, wide, then a: wide
        self.assertEqual(longest_row(Pile("a", [Words("b", "x")])), 9)
        # c's wide needs its wish, that b's wide, and so on; then tall and top
        told = names(12)
        boxes = [Words(name, "", style=Style(wide=tie(told[at - 1]) if at else 3)) for at, name in enumerate(told)]
        self.assertEqual(longest_row(Pile("top", boxes), high=5), 12 * 2 + 4)

    def test_many_trees(self):
        for numbers, tree, frame in some_scenes(63, 250, odds=8):
            try:
                right = max(Oracle(tree, **frame).depths().values())
            except InARing:
                refused(self, Ring, longest_row, tree, **frame)
                continue
            self.assertEqual(longest_row(tree, **frame), right)
            self.assertEqual(longest_row(tree=tree, **frame), right)


class PassesTest(SettleCase):
    def check(self, tree, begin, **frame):
        before = dict(begin)
        told = passes(tree, begin, **frame)
        self.assertEqual(begin, before)
        self.assertIs(type(told), tuple)
        many, numbers = told
        self.assertIs(type(numbers), dict)
        self.assertEqual(told, plain_passes(tree, begin, **frame))
        self.assertEqual(numbers, {(name, word): number for name, word, number in settled(tree, **frame)})
        self.assertLessEqual(many, longest_row(tree, **frame))
        self.assertEqual(passes(begin=begin, tree=tree, **frame), told)
        return told

    def test_by_hand(self):
        tree = Words("a", "x")
        # Pass by pass are right: wide; flow; rise; tall (flow is 1 at once, as 0 wide has a line, too).
        self.assertEqual(self.check(tree, {})[0], 3)
        self.assertEqual(self.check(Words("a", "x x"), {})[0], 4)
        self.assertEqual(self.check(tree, {("a", "flow"): 1})[0], 2)
        self.assertEqual(self.check(tree, {("a", "wide"): 80, ("a", "flow"): 1, ("a", "rise"): 1, ("a", "tall"): 1})[0], 0)
        self.assertEqual(self.check(tree, {("a", "left"): -5}, high=0, wide=0)[0], 1)
        self.assertEqual(self.check(tree, {}, high=0, wide=0)[0], 0)

    def test_nothing_but_asked_numbers_is_taken(self):
        tree = Words("a", "x")
        odd = {("a", "base"): Hostile(), ("b", "wide"): Hostile(), "a": Hostile(), 7: Hostile(), ("a", "wish"): None}
        self.assertEqual(passes(tree, {**odd, ("a", "flow"): 1}), passes(tree, {("a", "flow"): 1}))

    def test_many_trees_from_any_numbers(self):
        for numbers, tree, frame in some_scenes(64, 120, odds=8):
            try:
                right = Oracle(tree, **frame).settled()
            except InARing:
                refused(self, Ring, passes, tree, {}, **frame)
                continue
            self.check(tree, {}, **frame)
            self.assertEqual(self.check(tree, right, **frame)[0], 0)
            for most in (5, 100, 10 ** 6):
                begin = {}
                for box, holder in all_in(tree):
                    for word in WORDS:
                        if numbers.below(4):
                            low = most // 2 if word in ("left", "top") else 0
                            begin[box.name, word] = numbers.below(most) - low
                self.check(tree, begin, **frame)

    def test_known_wishes_and_rises_below_the_leasts(self):
        tree = Row("a", [Words("b", "the cat"), Pile("c", [Words("d", "x", style=Style(least_high=4))])])
        begin = {("b", "wish"): 0, ("b", "least"): 99, ("d", "rise"): 0, ("a", "wide"): 1}
        self.check(tree, begin, wide=9, high=1)

    def test_some_need_as_many_as_the_longest_row(self):
        tree = Words("a", "x x")
        self.assertEqual(self.check(tree, {})[0], longest_row(tree))
        told = names(39)
        boxes = [Words(name, "x", style=Style(wide=tie(told[at - 1]) if at else 3)) for at, name in enumerate(told)]
        tree = Pile("top", boxes, stands="end")
        # All but the last one's flow, rise and tall, which are right whatever its wide.
        self.assertEqual(self.check(tree, {}, high=40)[0], longest_row(tree, high=40) - 3)

    def test_the_dict_is_the_askers_own(self):
        tree = Words("a", "x")
        right = passes(tree, {})[1]
        told = passes(tree, right)[1]
        self.assertIsNot(told, right)
        told.clear()
        self.assertEqual(passes(tree, right), (0, right))


class RefusedTest(SettleCase):
    def test_the_order(self):
        ring = Row("a", [Words("b", "", style=Style(wide=tie("b")))])
        asks = (asked, settled, longest_row, lambda tree, **named: passes(tree, {}, **named))
        for asks_one in asks:
            for wrong in no_trees():
                refused(self, NoTree, asks_one, wrong, wide=-1, high=-1)
            for wrong in no_counts():
                refused(self, NoFrame, asks_one, ring, wide=wrong)
                refused(self, NoFrame, asks_one, ring, wide=wrong, high=3)
                if wrong is not None:
                    refused(self, NoFrame, asks_one, ring, high=wrong)
                    refused(self, NoFrame, asks_one, ring, wide=3, high=wrong)

    def test_nothing_is_changed(self):
        ring = Row("a", [Words("b", "", style=Style(wide=tie("b")))])
        begin = {("a", "wide"): 4}
        refused(self, Ring, passes, ring, begin)
        self.assertEqual(begin, {("a", "wide"): 4})


class LimitsTest(SettleCase):
    def setUp(self):
        self.began = time.monotonic()

    def tearDown(self):
        # What is asked of a few dozen trees at the limits takes a few seconds on a slow machine.
        self.assertLess(time.monotonic() - self.began, 60)

    def check_tree(self, tree, **frame):
        try:
            right = Oracle(tree, **frame).settled()
        except InARing:
            self.check_refused(tree, **frame)
            return False
        self.assertEqual({(n, w): number for n, w, number in settled(tree, **frame)}, right)
        many, numbers = passes(tree, {}, **frame)
        self.assertEqual(numbers, right)
        self.assertLessEqual(many, longest_row(tree, **frame))
        return True

    def test_forty_boxes_and_more(self):
        numbers = Numbers(71)
        for many, odds in ((40, 0), (40, 5), (40, 30), (55, 0), (70, 5)):
            for _ in range(4):
                told = self.check_tree(full_tree(many, numbers, odds), wide=120)
                self.assertTrue(told or odds)

    def test_ten_within_one_another_and_more(self):
        for many in (10, 11, 15, 30):
            for kinds in (("row",), ("pile",), ("turn",), ("grid",), ("row", "pile", "turn", "grid")):
                self.assertTrue(self.check_tree(deep_tree(many, kinds), wide=60))
                self.assertTrue(self.check_tree(deep_tree(many, kinds), wide=5, high=9))

    def test_twenty_right_in_one_and_more(self):
        for many, kind in itertools.product((20, 21, 30), (Row, Pile, Grid, "turn")):
            for frame in ({}, {"wide": 12}, {"wide": 300, "high": 100}, {"wide": BIG, "high": BIG}):
                self.assertTrue(self.check_tree(wide_tree(many, kind), **frame))

    def test_a_long_row_of_ties(self):
        told = names(39)
        boxes = []
        for at, name in enumerate(told):
            size = tie(told[at - 1], "wide", 1) if at else 3
            boxes.append(Words(name, "x y z", style=Style(wide=size, high=tie(name, "wide", -1))))
        tree = Pile("top", boxes, gap=1)
        self.assertTrue(self.check_tree(tree, wide=50))
        self.assertGreater(longest_row(tree), 2 * 39)


if __name__ == "__main__":
    unittest.main()
