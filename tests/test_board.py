"""The board: made, asked, changed by deeds, undone, watched."""

import time
import unittest

from forest import LETTERS, STANDS, WORDS, all_in, deep_tree, full_tree, some_scenes, some_style, wide_tree
from helper import Hostile, Numbers, no_counts, no_lists, no_texts, odd_things, refused
from nestlaid.board import Board
from nestlaid.boxes import Grid, Picture, Pile, Row, Words, same_record
from nestlaid.errors import (
    Busy, NestError, NoBox, NoDeed, NoFrame, NoHolder, NoName, NoPlace, NoSpot, NoStyle, NoText, NoTree, NoWord, NoWords,
    Ring,
)
from nestlaid.look import places
from nestlaid.settle import settled
from nestlaid.styles import Style
from nestlaid.trees import put, restyled, retold, taken
from oracle import InARing, Oracle
from test_needs import no_words
from test_rules import tie
from test_trees import no_names_of_the_sample, no_trees, sample

BIG = 10 ** 12 - 1
LOOP = Style(wide=tie("b"))


def page():
    """A tree that settles in each frame."""
    side = Pile("c", [Words("d", "a long story"), Picture("e", 4, 2)], gap=1)
    grid = Grid("g", [Words("h", "x"), Words("i", "y z")], [(0, 0, 1, 1), (1, 0, 1, 1)], columns=["fit", ("share", 1)],
                rows=["fit", 1])
    return Row("a", [Words("b", "the cat sat", style=Style(grow=1)), side, grid], gap=1)


def ring():
    return Row("a", [Words("b", "", style=LOOP)])


def numbers_of(tree, frame):
    return {(name, word): number for name, word, number in settled(tree, wide=frame[0], high=frame[1])}


def stand_of(board):
    """All that a board tells."""
    return board.tree(), board.frame(), board.places(), board.anew()


class BoardCase(unittest.TestCase):
    def check_told(self, board, tree, frame):
        """The board keeps this tree in this frame, settled."""
        self.assertEqual(board.tree(), tree)
        self.assertEqual(board.frame(), frame)
        self.assertIs(type(board.frame()), tuple)
        oracle = Oracle(tree, *frame)
        known = oracle.settled()
        rows = [(name, *[known[name, word] for word in ("left", "top", "wide", "tall")]) for name in oracle.names]
        self.assertEqual(board.places(), rows)
        for name, *place in rows:
            self.assertEqual(board.place(name), tuple(place))
            for word in WORDS:
                if (name, word) in known:
                    self.assertEqual(board.number(name, word), known[name, word])
                else:
                    refused(self, NoWord, board.number, name, word)

    def check_anew(self, board, ahead_tree, ahead_frame):
        """Just those with a reason are told, each behind those that it needs, with one of its reasons."""
        old, new = Oracle(ahead_tree, *ahead_frame), Oracle(board.tree(), *board.frame())
        before, now = old.settled(), new.settled()
        reasons = {}
        for key in now:
            its = [("new",)] if key not in before else []
            for name in new.reads(*key):
                if name == "":
                    turned = ahead_frame != board.frame()
                else:
                    turned = name not in old.boxes or not same_record(old.boxes[name], new.boxes[name])
                its += [("box", name)] if turned else []
            for need in new.needs(*key):
                its += [("number", *need)] if need not in before or before[need] != now[need] else []
            if its:
                reasons[key] = its
            else:
                self.assertEqual(now[key], before[key])
        told = board.anew()
        self.assertIs(type(told), list)
        self.assertEqual(sorted((name, word) for name, word, reason in told), sorted(reasons))
        ahead = set()
        for name, word, reason in told:
            self.assertIn(reason, reasons[name, word])
            self.assertEqual({need for need in new.needs(name, word) if need in reasons} - ahead, set())
            ahead.add((name, word))

    def check_refused(self, board, error, asks, *told, **named):
        """The refusal, which changes nothing."""
        before = stand_of(board)
        answer = refused(self, error, asks, *told, **named)
        self.assertEqual(stand_of(board), before)
        return answer


class MadeTest(BoardCase):
    def test_told(self):
        for frame in ({}, {"wide": 30}, {"high": 9}, {"wide": 12, "high": 3}, {"wide": 0, "high": 0}):
            board = Board(page(), **frame)
            self.check_told(board, page(), (frame.get("wide", 80), frame.get("high")))
            self.check_told(Board(tree=page(), **frame), page(), (frame.get("wide", 80), frame.get("high")))

    def test_anew_behind_the_making(self):
        board = Board(page(), wide=30)
        told = board.anew()
        self.assertEqual({reason for name, word, reason in told}, {("new",)})
        oracle = Oracle(page(), 30, None)
        self.assertEqual(sorted((name, word) for name, word, reason in told), sorted(oracle.asked()))
        ahead = set()
        for name, word, reason in told:
            self.assertLessEqual(set(oracle.needs(name, word)), ahead)
            ahead.add((name, word))

    def test_many(self):
        for numbers, tree, frame in some_scenes(91, 80, odds=8):
            try:
                Oracle(tree, **frame).settled()
            except InARing:
                refused(self, Ring, Board, tree, **frame)
                continue
            self.check_told(Board(tree, **frame), tree, (frame["wide"], frame["high"]))

    def test_refused(self):
        for wrong in no_trees():
            refused(self, NoTree, Board, wrong)
            refused(self, NoTree, Board, wrong, wide=-1, high=Hostile())
        for wrong in no_counts():
            refused(self, NoFrame, Board, ring(), wide=wrong)
            refused(self, NoFrame, Board, ring(), wide=wrong, high=3)
            if wrong is not None:
                refused(self, NoFrame, Board, ring(), high=wrong)
        error = refused(self, Ring, Board, ring())
        for one, other in zip(error.ring, error.ring[1:] + error.ring[:1]):
            self.assertIn(other, Oracle(ring()).needs(*one))

    def test_names_and_words_refused(self):
        board = Board(page())
        for wrong in odd_things() + ["f", "A", "", "ab", ("a",)]:
            refused(self, NoName, board.place, wrong)
            refused(self, NoName, board.number, wrong, Hostile())
            refused(self, NoName, board.number, wrong, "wide")
        for wrong in no_words():
            refused(self, NoWord, board.number, "a", wrong)
            refused(self, NoWord, board.number, word=wrong, name="a")
        refused(self, NoWord, board.number, "a", "wish")
        refused(self, NoWord, board.number, "b", "base")
        self.assertEqual(board.number(word="wish", name="b"), 11)
        self.assertEqual(board.place(name="a")[:2], (0, 0))

    def test_lists_are_the_askers_own(self):
        board = Board(page())
        for asks in (board.places, board.anew):
            told = asks()
            right = list(told)
            told.clear()
            told.append("x")
            self.assertEqual(asks(), right)

    def test_two_boards_of_one_tree(self):
        tree = page()
        one, other = Board(tree), Board(tree, wide=30)
        before = stand_of(other)
        calls = []
        other.watch(calls.append)
        one.retell("b", "x")
        one.take("g")
        one.set_frame(wide=5)
        self.assertEqual(stand_of(other), before)
        self.assertEqual(tree, page())
        self.assertEqual(calls, [])
        other.take("c")
        self.check_told(one, taken(retold(page(), "b", "x"), "g"), (5, None))
        self.check_told(other, taken(page(), "c"), (30, None))
        refused(self, NoDeed, Board(tree).undo)


class DeedsTest(BoardCase):
    def check_deed(self, board, tree, frame, deed, *told, **named):
        """The deed is done: the board keeps this tree in this frame."""
        ahead = (board.tree(), board.frame())
        self.assertIsNone(deed(*told, **named))
        self.check_told(board, tree, frame)
        self.check_anew(board, *ahead)

    def test_put(self):
        for named in (False, True):
            board = Board(page(), wide=40)
            tree = put(page(), "c", 1, Words("f", "new one"))
            if named:
                self.check_deed(board, tree, (40, None), board.put, box=Words("f", "new one"), at=1, holder="c")
            else:
                self.check_deed(board, tree, (40, None), board.put, "c", 1, Words("f", "new one"))
            tree = put(tree, "g", 2, Picture("j", 1, 1), spot=(0, 1, 2, 1))
            self.check_deed(board, tree, (40, None), board.put, "g", 2, Picture("j", 1, 1), spot=(0, 1, 2, 1))
            self.check_deed(board, put(tree, "a", 0, Words("k", "")), (40, None), board.put, "a", 0, Words("k", ""), spot=None)

    def test_take(self):
        for named in (False, True):
            board = Board(page(), wide=40)
            self.check_deed(board, taken(page(), "d"), (40, None), board.take, **{"name": "d"})
            self.check_deed(board, taken(taken(page(), "d"), "g"), (40, None), board.take, "g")

    def test_restyle_and_retell(self):
        board = Board(page(), wide=40)
        tree = restyled(page(), "b", Style(wide=7))
        self.check_deed(board, tree, (40, None), board.restyle, "b", Style(wide=7))
        tree = restyled(tree, "c", Style(rims=(1, 1, 1, 1)))
        self.check_deed(board, tree, (40, None), board.restyle, style=Style(rims=(1, 1, 1, 1)), name="c")
        tree = retold(tree, "d", "now\nit is")
        self.check_deed(board, tree, (40, None), board.retell, "d", "now\nit is")
        tree = retold(tree, "h", "longer")
        self.check_deed(board, tree, (40, None), board.retell, text="longer", name="h")

    def test_set_frame(self):
        board = Board(page(), wide=40, high=9)
        self.check_deed(board, page(), (30, None), board.set_frame, wide=30)
        self.check_deed(board, page(), (80, 7), board.set_frame, high=7)
        self.check_deed(board, page(), (12, 0), board.set_frame, high=0, wide=12)
        self.check_deed(board, page(), (80, None), board.set_frame)

    def test_a_deed_that_changes_nothing(self):
        board = Board(page())
        self.check_deed(board, page(), (80, None), board.set_frame)
        self.assertEqual(board.anew(), [])
        self.check_deed(board, page(), (80, None), board.retell, "b", "the cat sat")
        self.check_deed(board, page(), (80, None), board.restyle, "b", Style(grow=1))
        self.assertEqual(board.anew(), [])
        for _ in range(3):
            board.undo()
        refused(self, NoDeed, board.undo)

    def test_anew_by_hand(self):
        board = Board(Pile("a", [Words("b", "x y"), Words("c", "z")]), wide=9)
        board.retell("c", "w")
        self.assertEqual({(name, word): reason for name, word, reason in board.anew()}, {
            ("c", "flow"): ("box", "c"), ("c", "rise"): ("box", "c"), ("a", "flow"): ("box", "c"),
            ("b", "wide"): ("box", "c"), ("c", "wide"): ("box", "c"), ("b", "left"): ("box", "c"), ("c", "left"): ("box", "c"),
            ("b", "tall"): ("box", "c"), ("c", "tall"): ("box", "c"), ("b", "top"): ("box", "c"), ("c", "top"): ("box", "c"),
        })
        board.set_frame(wide=9, high=2)
        told = {(name, word): reason for name, word, reason in board.anew()}
        self.assertEqual(told, {("a", "wide"): ("box", ""), ("a", "tall"): ("box", "")})
        board.set_frame(wide=8, high=2)
        told = {(name, word): reason for name, word, reason in board.anew()}
        self.assertEqual(told, {
            ("a", "wide"): ("box", ""), ("a", "tall"): ("box", ""),
            ("b", "wide"): ("number", "a", "wide"), ("c", "wide"): ("number", "a", "wide"),
            ("b", "left"): told["b", "left"], ("c", "left"): told["c", "left"],
            ("b", "flow"): ("number", "b", "wide"), ("c", "flow"): ("number", "c", "wide"),
        })
        self.assertIn(told["b", "left"], [("number", "a", "wide"), ("number", "b", "wide")])

    def test_a_refused_deed_leaves_anew(self):
        board = Board(page())
        board.retell("b", "x")
        self.check_refused(board, NoName, board.take, "zz")
        self.check_anew(board, page(), (80, None))

    def some_deed(self, numbers, tree, frame):
        """A deed as if by chance that may be refused: its tuple, and the tree and frame behind it."""
        boxes = [box for box, holder in all_in(tree)]
        names = [box.name for box in boxes]
        word = numbers.one_of(("put", "put", "take", "restyle", "retell", "frame"))
        box = numbers.one_of(boxes)
        if word == "frame":
            frame = (numbers.one_of((10, 25, 60, 80)), numbers.one_of((None, None, 12, 40)))
            return ("frame", *frame), tree, frame
        if word == "take":
            name = numbers.one_of(names)
            return ("take", name), lambda: taken(tree, name), frame
        if word == "restyle":
            style = some_style(numbers, names, box.name == tree.name, 15)
            return ("restyle", box.name, style), lambda: restyled(tree, box.name, style), frame
        if word == "retell":
            text = numbers.one_of(("", "the dog", "one two\nthree", "longestword"))
            return ("retell", box.name, text), lambda: retold(tree, box.name, text), frame
        free = [one + other for one in LETTERS for other in "st" if one + other not in names]
        new = Words(numbers.one_of(free), "new words", style=Style(grow=numbers.below(2)))
        if numbers.below(3) == 0:
            new = Pile(numbers.one_of(free[::-1][:10]), [new, Picture("newpic", 2, 3)])
        at, spot = 0, None
        if type(box) is Grid:
            spot = (numbers.below(len(box.columns)), numbers.below(len(box.rows)), 1, 1)
        elif type(box) in (Row, Pile):
            at = numbers.below(len(box.boxes) + 1)
        return ("put", box.name, at, new, spot), lambda: put(tree, box.name, at, new, spot=spot), frame

    def do(self, board, deed):
        word, *told = deed
        if word == "put":
            return board.put(*told[:3], spot=told[3])
        if word == "frame":
            return board.set_frame(wide=told[0], high=told[1])
        return getattr(board, word)(*told)

    def outcome(self, tree_or_maker, frame):
        """The tree behind a deed, or the class of its refusal."""
        try:
            tree = tree_or_maker() if callable(tree_or_maker) else tree_or_maker
            Oracle(tree, *frame).settled()
            return tree
        except InARing:
            return Ring
        except NestError as error:
            return type(error)

    def test_many_deeds_each_by_itself(self):
        done, kinds = 0, set()
        for numbers, tree, frame in some_scenes(92, 25, odds=4):
            if self.outcome(tree, (frame["wide"], frame["high"])) is Ring:
                continue
            board, past = Board(tree, **frame), []
            for _ in range(25):
                ahead = (board.tree(), board.frame())
                if numbers.below(5) == 0:
                    if past:
                        self.assertIsNone(board.undo())
                        self.check_told(board, *past.pop())
                        self.check_anew(board, *ahead)
                    else:
                        self.check_refused(board, NoDeed, board.undo)
                    continue
                deed, maker, frame_behind = self.some_deed(numbers, *ahead)
                right = self.outcome(maker, frame_behind)
                if isinstance(right, type):
                    kinds.add(right)
                    self.check_refused(board, right, self.do, board, deed)
                    continue
                self.assertIsNone(self.do(board, deed))
                past.append(ahead)
                self.check_told(board, right, frame_behind)
                self.check_anew(board, *ahead)
                done += 1
        self.assertGreater(done, 150)
        self.assertLessEqual({Ring, NoHolder, NoTree, NoWords, NoSpot}, kinds)

    def test_many_deeds_together(self):
        done = 0
        for numbers, tree, frame in some_scenes(93, 25, odds=4):
            if self.outcome(tree, (frame["wide"], frame["high"])) is Ring:
                continue
            board = Board(tree, **frame)
            for _ in range(8):
                ahead = (board.tree(), board.frame())
                deeds, now, frame_now = [], board.tree(), board.frame()
                for _ in range(numbers.below(4)):
                    deed, maker, frame_now = self.some_deed(numbers, now, frame_now)
                    deeds.append(deed)
                    try:
                        now = maker() if callable(maker) else maker
                    except NestError as error:
                        now = type(error)
                        break
                right = now if isinstance(now, type) else self.outcome(now, frame_now)
                before = list(deeds)
                if isinstance(right, type):
                    self.check_refused(board, right, board.together, deeds)
                else:
                    self.assertIsNone(board.together(deeds))
                    self.check_told(board, right, frame_now)
                    self.check_anew(board, *ahead)
                    done += 1
                    if numbers.below(3) == 0:
                        board.undo()
                        self.check_told(board, *ahead)
                        self.check_anew(board, right, frame_now)
                self.assertEqual(deeds, before)
        self.assertGreater(done, 60)


class RefusedTest(BoardCase):
    """Each deed is refused as the tree's is, Ring behind all; nothing is changed."""

    def board(self):
        """A board of the sample, but with a tie that makes no ring."""
        return Board(restyled(restyled(sample(), "c", Style()), "d", Style(high=tie("j", "wide"))), high=30)

    def test_put(self):
        board, new = self.board(), Words("f", "")
        for wrong in no_names_of_the_sample():
            self.check_refused(board, NoName, board.put, wrong, Hostile(), Hostile(), spot=Hostile())
        self.check_refused(board, NoHolder, board.put, "b", Hostile(), Hostile(), spot=Hostile())
        for wrong in no_counts() + [4, BIG]:
            self.check_refused(board, NoPlace, board.put, "a", wrong, Hostile(), spot=Hostile())
        for wrong in odd_things():
            self.check_refused(board, NoBox, board.put, "a", 0, wrong, spot=Hostile())
            if wrong is not None:
                self.check_refused(board, NoSpot, board.put, "a", 0, new, spot=wrong)
            self.check_refused(board, NoSpot, board.put, "g", 0, Words("a", ""), spot=wrong)
        self.check_refused(board, NoSpot, board.put, "g", 0, new)
        self.check_refused(board, NoTree, board.put, "a", 0, Words("a", ""))
        self.check_refused(board, NoTree, board.put, "a", 0, Words("f", "", style=Style(wide=tie("zz"))))
        self.check_refused(board, Ring, board.put, "a", 0, Words("f", "", style=Style(wide=tie("f"))))

    def test_take(self):
        board = self.board()
        for wrong in no_names_of_the_sample():
            self.check_refused(board, NoName, board.take, wrong)
        self.check_refused(board, NoHolder, board.take, "a")
        self.check_refused(board, NoTree, board.take, "j")

    def test_restyle(self):
        board = self.board()
        for wrong in no_names_of_the_sample():
            self.check_refused(board, NoName, board.restyle, wrong, Hostile())
        for wrong in odd_things():
            self.check_refused(board, NoStyle, board.restyle, "a", wrong)
        self.check_refused(board, NoTree, board.restyle, "a", Style(wide=("part", 5)))
        self.check_refused(board, NoTree, board.restyle, "d", Style(wide=tie("zz")))
        error = self.check_refused(board, Ring, board.restyle, "d", Style(wide=tie("d")))
        self.assertIn(("d", "wish"), error.ring)

    def test_retell(self):
        board = self.board()
        for wrong in no_names_of_the_sample():
            self.check_refused(board, NoName, board.retell, wrong, Hostile())
        self.check_refused(board, NoWords, board.retell, "a", Hostile())
        for wrong in no_texts():
            self.check_refused(board, NoText, board.retell, "b", wrong)

    def test_set_frame(self):
        board = Board(Words("a", "", style=Style(high=tie("a", "tall"))), high=3)
        for wrong in no_counts():
            self.check_refused(board, NoFrame, board.set_frame, wide=wrong)
            self.check_refused(board, NoFrame, board.set_frame, wide=wrong, high=-1)
            if wrong is not None:
                self.check_refused(board, NoFrame, board.set_frame, high=wrong)
        self.check_refused(board, Ring, board.set_frame)
        self.check_refused(board, NoFrame, board.set_frame, wide=-1)

    def test_undo(self):
        board = self.board()
        self.check_refused(board, NoDeed, board.undo)
        refused(self, NoName, board.take, "zz")
        self.check_refused(board, NoDeed, board.undo)


class TogetherTest(BoardCase):
    DEEDS = [
        ("put", "c", 0, Words("f", "x"), None), ("take", "e"), ("restyle", "b", Style(wide=5)), ("retell", "d", "so"),
        ("frame", 30, 12),
    ]

    def no_deeds(self):
        wrongs = no_lists() + [tuple(self.DEEDS), {"take": 1}, "take"]
        items = odd_things() + [[*self.DEEDS[1]], ("take",), ("take", "e", "e"), ("put", "c", 0, Words("f", "x")), ("undo",)]
        items += [("frame", 30), ("frame",), ("frame", 30, 12, 1), ("Take", "e"), ("set_frame", 30, 12), ("restyle", "b")]
        items += [("retell", "d"), ("retell", "d", "so", 1), ("watch", 1), (b"take", "e"), (None, "e"), (Hostile(), "e")]
        items += [("put", "c", 0, Words("f", "x"), None, None), ("", "e"), ((("take",), "e"))]
        wrongs += [[item] for item in items]
        return wrongs + [[*self.DEEDS, item] for item in items] + [[item, *self.DEEDS] for item in items]

    def test_done_together(self):
        board = Board(page())
        calls = []
        board.watch(calls.append)
        deeds = list(self.DEEDS)
        self.assertIsNone(board.together(deeds))
        self.assertEqual(deeds, self.DEEDS)
        tree = put(page(), "c", 0, Words("f", "x"))
        tree = retold(restyled(taken(tree, "e"), "b", Style(wide=5)), "d", "so")
        self.check_told(board, tree, (30, 12))
        self.check_anew(board, page(), (80, None))
        self.assertEqual(len(calls), 1)
        board.undo()
        self.check_told(board, page(), (80, None))
        self.check_anew(board, tree, (30, 12))
        self.check_refused(board, NoDeed, board.undo)
        self.assertIsNone(board.together(deeds=deeds))
        self.check_told(board, tree, (30, 12))

    def test_none_at_all(self):
        board = Board(page())
        board.retell("b", "x")
        calls = []
        board.watch(calls.append)
        self.assertIsNone(board.together([]))
        self.assertEqual(board.anew(), [])
        self.assertEqual(calls, [])
        board.undo()
        self.check_told(board, retold(page(), "b", "x"), (80, None))
        board.undo()
        self.check_told(board, page(), (80, None))
        self.check_refused(board, NoDeed, board.undo)

    def test_no_such_list(self):
        board = Board(page())
        board.retell("b", "x")
        for wrong in self.no_deeds():
            self.check_refused(board, NoDeed, board.together, wrong)

    def test_no_such_list_goes_ahead_of_all_other_refusals(self):
        board = Board(page())
        self.check_refused(board, NoDeed, board.together, [("take", "zz"), ("take",)])
        self.check_refused(board, NoDeed, board.together, [("frame", -1, -1), ("retell", "d", None), None])

    def test_a_refusal_amid_them_leaves_all_as_it_was(self):
        board = Board(page())
        board.retell("b", "x")
        refusals = [
            (("take", "zz"), NoName), (("take", "a"), NoHolder), (("restyle", "b", None), NoStyle),
            (("retell", "c", ""), NoWords), (("retell", "d", None), NoText), (("frame", None, 3), NoFrame),
            (("frame", 3, -1), NoFrame), (("put", "zz", 0, Words("k", ""), None), NoName),
            (("put", "b", 0, Words("k", ""), None), NoHolder), (("put", "a", 9, Words("k", ""), None), NoPlace),
            (("put", "a", 0, None, None), NoBox), (("put", "a", 0, Words("k", ""), (0, 0, 1, 1)), NoSpot),
            (("put", "g", 0, Words("k", ""), None), NoSpot), (("put", "a", 0, Words("a", ""), None), NoTree),
            (("restyle", "b", Style(wide=tie("zz"))), NoTree),
        ]
        for deed, error in refusals:
            for deeds in ([deed], [*self.DEEDS, deed], [deed, *self.DEEDS], [*self.DEEDS[:2], deed, *self.DEEDS[2:]]):
                self.check_refused(board, error, board.together, deeds)
        self.check_refused(board, NoName, board.together, [("take", "e"), ("take", "e")])
        self.check_refused(board, NoName, board.together, [("take", "zz"), ("frame", -1, -1)])
        board.undo()
        self.check_told(board, page(), (80, None))

    def test_each_is_refused_by_the_tree_ahead_of_it(self):
        board = Board(page())
        board.together([("put", "a", 0, Pile("f", []), None), ("put", "f", 0, Words("k", ""), None), ("take", "k")])
        self.check_told(board, put(page(), "a", 0, Pile("f", [])), (80, None))
        # A tie that would be left is refused, even where the next deed would take it away.
        board.restyle("d", Style(high=tie("e", "wide", 1)))
        self.check_refused(board, NoTree, board.together, [("take", "e"), ("restyle", "d", Style())])
        self.assertIsNone(board.together([("restyle", "d", Style()), ("take", "e")]))

    def test_ring_is_asked_for_behind_the_last_one_only(self):
        board = Board(page())
        loop, free = ("restyle", "b", Style(wide=tie("b"))), ("restyle", "b", Style())
        self.check_refused(board, Ring, board.together, [loop])
        self.check_refused(board, Ring, board.together, [free, loop, ("retell", "d", "x")])
        self.check_refused(board, NoName, board.together, [loop, ("take", "zz")])
        self.assertIsNone(board.together([loop, free]))
        self.check_told(board, restyled(page(), "b", Style()), (80, None))
        self.assertIsNone(board.together([loop, ("take", "b")]))
        self.check_told(board, taken(page(), "b"), (80, None))

    def test_out_and_in_again(self):
        board = Board(page())
        calls = []
        board.watch(calls.append)
        board.together([("take", "b"), ("put", "a", 0, Words("b", "the cat sat", style=Style(grow=1)), None)])
        self.assertEqual(board.anew(), [])
        self.assertEqual(calls, [])
        board.together([("take", "b"), ("put", "c", 0, Words("b", "the cat sat", style=Style(grow=1)), None)])
        self.check_anew(board, page(), (80, None))
        self.assertEqual([row[0] for row in calls[0] if None in row], [])

    def test_a_list_that_is_changed_behind_it(self):
        board = Board(page())
        deeds = [("retell", "b", "x")]
        board.watch(lambda turns: deeds.append(("take", "g")))
        board.together(deeds)
        self.check_told(board, retold(page(), "b", "x"), (80, None))


class UndoTest(BoardCase):
    def test_again_and_again(self):
        board = Board(page(), wide=40)
        stands = [(board.tree(), board.frame())]
        deeds = [
            lambda: board.retell("b", "x"), lambda: board.set_frame(wide=20), lambda: board.take("e"),
            lambda: board.together([("retell", "b", "y"), ("take", "g")]), lambda: board.set_frame(wide=20),
            lambda: board.put("c", 0, Words("f", "")),
        ]
        for deed in deeds:
            deed()
            stands.append((board.tree(), board.frame()))
        for at in range(len(deeds), 0, -1):
            self.assertIsNone(board.undo())
            self.check_told(board, *stands[at - 1])
            self.check_anew(board, *stands[at])
        self.check_refused(board, NoDeed, board.undo)
        self.check_refused(board, NoDeed, board.undo)

    def test_deeds_behind_an_undoing(self):
        board = Board(page())
        board.retell("b", "one")
        board.retell("b", "two")
        board.undo()
        board.retell("b", "three")
        board.undo()
        self.check_told(board, retold(page(), "b", "one"), (80, None))
        board.undo()
        self.check_told(board, page(), (80, None))
        self.check_refused(board, NoDeed, board.undo)

    def test_a_refused_deed_is_not_undone(self):
        board = Board(page())
        board.retell("b", "one")
        refused(self, NoName, board.retell, "zz", "two")
        refused(self, Ring, board.restyle, "b", LOOP)
        board.undo()
        self.check_told(board, page(), (80, None))

    def test_that_which_was_undone_is_as_it_was(self):
        board = Board(page(), wide=17, high=3)
        before = (board.tree(), board.frame(), board.places())
        board.together([("take", "c"), ("frame", 9, None)])
        board.undo()
        self.assertEqual((board.tree(), board.frame(), board.places()), before)


class WatchTest(BoardCase):
    def turns(self, ahead, now):
        """What watchers are told where these were all places ahead and are now."""
        before, behind = {row[0]: row[1:] for row in ahead}, {row[0]: row[1:] for row in now}
        told = [(name, before.get(name), place) for name, place in behind.items() if before.get(name) != place]
        return told + [(name, place, None) for name, place in before.items() if name not in behind]

    def test_when_and_with_what(self):
        board = Board(page(), wide=40)
        calls = []
        self.assertIsNone(board.watch(calls.append))
        self.assertEqual(calls, [])
        deeds = [
            lambda: board.retell("b", "x\n" * 12), lambda: board.take("c"), lambda: board.undo(),
            lambda: board.put("c", 0, Words("f", "new")), lambda: board.set_frame(wide=25, high=40),
            lambda: board.together([("take", "f"), ("put", "a", 0, Pile("k", [Words("f", "new")]), None)]),
            lambda: board.undo(), lambda: board.set_frame(),
        ]
        for deed in deeds:
            ahead = board.places()
            deed()
            self.assertEqual(calls.pop(), self.turns(ahead, board.places()))
            self.assertEqual(calls, [])

    def test_by_hand(self):
        board = Board(Pile("m", [Words("z", "x"), Words("b", "y"), Words("k", "w")]), wide=5)
        calls = []
        board.watch(watcher=calls.append)
        board.together([("take", "z"), ("put", "m", 2, Words("a", "q r"), None), ("take", "k")])
        self.assertEqual(calls, [[
            ("m", (0, 0, 5, 3), (0, 0, 5, 2)), ("b", (0, 1, 5, 1), (0, 0, 5, 1)), ("a", None, (0, 1, 5, 1)),
            ("z", (0, 0, 5, 1), None), ("k", (0, 2, 5, 1), None),
        ]])

    def test_not_where_nothing_turned(self):
        board = Board(page())
        calls = []
        board.watch(calls.append)
        board.set_frame()
        board.retell("b", "the dog sat")
        board.together([])
        board.undo()
        board.undo()
        refused(self, NoName, board.take, "zz")
        refused(self, Ring, board.restyle, "b", LOOP)
        refused(self, NoDeed, board.together, None)
        self.assertEqual(calls, [])

    def test_a_box_without_cells_comes_and_goes(self):
        board = Board(Row("a", [Words("b", "x")]), wide=5, high=2)
        calls = []
        board.watch(calls.append)
        board.put("a", 1, Row("c", [], style=Style(high=0, stand="start")))
        board.take("c")
        self.assertEqual(calls, [[("c", None, (1, 0, 0, 0))], [("c", (1, 0, 0, 0), None)]])

    def test_several_in_order_one_twice(self):
        board = Board(page())
        calls = []
        first, second = (lambda turns: calls.append(1)), (lambda turns: calls.append(2))
        for watcher in (second, first, second):
            board.watch(watcher)
        board.take("e")
        self.assertEqual(calls, [2, 1, 2])
        board.undo()
        self.assertEqual(calls, [2, 1, 2, 2, 1, 2])

    def test_each_has_a_list_of_its_own(self):
        board = Board(page())
        calls = []

        def spoil(turns):
            calls.append(list(turns))
            turns.clear()

        board.watch(spoil)
        board.watch(spoil)
        board.take("e")
        self.assertEqual(calls[0], calls[1])
        self.assertNotEqual(calls[0], [])

    def test_later_deeds_alone(self):
        board = Board(page())
        calls = []
        board.take("e")
        board.watch(calls.append)
        self.assertEqual(calls, [])

    def test_busy(self):
        board = Board(page())
        seen = []

        def busy(turns):
            before = stand_of(board)
            deeds = [
                lambda: board.put(Hostile(), Hostile(), Hostile(), spot=Hostile()), lambda: board.put("a", 0, Words("f", "")),
                lambda: board.take(Hostile()), lambda: board.take("g"), lambda: board.restyle("b", Hostile()),
                lambda: board.restyle("b", LOOP), lambda: board.retell(None, None), lambda: board.retell("b", "x"),
                lambda: board.set_frame(), lambda: board.set_frame(wide=-1), lambda: board.together(None),
                lambda: board.together([]), lambda: board.together([("take", "g")]), lambda: board.undo(),
                lambda: board.watch(busy), lambda: board.watch(None),
            ]
            for deed in deeds:
                refused(self, Busy, deed)
            self.assertEqual(stand_of(board), before)
            seen.append(before)

        board.watch(busy)
        board.take("e")
        self.assertEqual(seen.pop(), stand_of(board))
        self.check_told(board, taken(page(), "e"), (80, None))
        board.undo()
        self.assertEqual(seen.pop(), stand_of(board))
        self.check_told(board, page(), (80, None))
        refused(self, NoDeed, board.undo)

    def test_what_is_asked_is_answered_as_behind_the_deed(self):
        board = Board(page())

        def ask(turns):
            self.check_told(board, taken(page(), "e"), (80, None))
            self.check_anew(board, page(), (80, None))
            for name, before, now in turns:
                if now is not None:
                    self.assertEqual(board.place(name), now)

        board.watch(ask)
        board.take("e")

    def test_another_board_is_not_busy(self):
        one, other = Board(page()), Board(page())
        one.watch(lambda turns: other.take("e"))
        other.watch(lambda turns: refused(self, Busy, one.undo))
        one.take("g")
        self.check_told(other, taken(page(), "e"), (80, None))
        self.check_told(one, taken(page(), "g"), (80, None))

    def test_a_watcher_that_raises(self):
        class Odd(Exception):
            pass

        for error in (Odd("x"), ValueError("x"), NoName("x"), ZeroDivisionError(), KeyError(3)):
            board = Board(page())
            calls = []
            fails = [True]

            def fail(turns):
                calls.append("fails")
                if fails[0]:
                    raise error

            board.watch(lambda turns: calls.append("ahead"))
            board.watch(fail)
            board.watch(lambda turns: calls.append("behind"))
            with self.assertRaises(type(error)) as caught:
                board.take("e")
            self.assertIs(caught.exception, error)
            self.assertEqual(calls, ["ahead", "fails"])
            self.check_told(board, taken(page(), "e"), (80, None))
            self.check_anew(board, page(), (80, None))
            # It isn't busy any more, and the deed can be undone, by which the watcher raises once more.
            with self.assertRaises(type(error)):
                board.undo()
            self.check_told(board, page(), (80, None))
            refused(self, NoDeed, board.undo)
            fails[0] = False
            calls.clear()
            board.together([("take", "e")])
            self.assertEqual(calls, ["ahead", "fails", "behind"])

    def test_a_deed_within_a_watcher_goes_through_as_busy(self):
        board = Board(page())
        board.watch(lambda turns: board.undo())
        refused(self, Busy, board.take, "e")
        self.check_told(board, taken(page(), "e"), (80, None))


class LimitsTest(BoardCase):
    def setUp(self):
        self.began = time.monotonic()

    def tearDown(self):
        self.assertLess(time.monotonic() - self.began, 120)

    def test_sixty_deeds_and_more(self):
        numbers = Numbers(95)
        for many in (60, 75):
            tree = full_tree(40, numbers)
            board = Board(tree, wide=100)
            calls = []
            board.watch(calls.append)
            words = [box.name for box, holder in all_in(tree) if type(box) is Words]
            for at in range(many):
                ahead = (board.tree(), board.frame())
                if at % 3 == 0:
                    board.retell(numbers.one_of(words), "the cat " * (at % 5))
                elif at % 3 == 1:
                    board.restyle(numbers.one_of(words), Style(grow=at % 4, rims=(at % 2, 0, 0, 1), stand=STANDS[at % 5]))
                else:
                    board.set_frame(wide=60 + at)
                self.check_anew(board, *ahead)
            self.check_told(board, board.tree(), board.frame())
            for _ in range(many):
                board.undo()
            self.assertEqual(board.tree(), tree)
            self.assertEqual(board.places(), places(tree, wide=100))

    def test_trees_at_the_limits(self):
        trees = [deep_tree(10), deep_tree(15)] + [wide_tree(many, kind) for many in (20, 25) for kind in
                                                  (Row, "turn", Pile, Grid)]
        for tree in trees:
            board = Board(tree)
            name = [box.name for box, holder in all_in(tree) if type(box) is Words][-1]
            board.retell(name, "x " * 200)
            self.check_told(board, retold(tree, name, "x " * 200), (80, None))
            self.check_anew(board, tree, (80, None))
            board.together([("retell", name, "y"), ("frame", BIG, BIG)] * 20)
            self.check_told(board, retold(tree, name, "y"), (BIG, BIG))

    def test_a_deed_far_from_all_else_reckons_little(self):
        tree = Pile("top", [Pile(name, [Words(name + "b", "x")], style=Style(high=3)) for name in LETTERS[:19]])
        board = Board(tree, high=90)
        board.retell("sb", "x y")
        self.assertLess(len(board.anew()), 9)
        self.assertEqual({name for name, word, reason in board.anew()}, {"sb"})


if __name__ == "__main__":
    unittest.main()
