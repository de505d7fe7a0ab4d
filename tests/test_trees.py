import itertools
import unittest

from helper import Hostile, Numbers, no_counts, no_texts, odd_things, refused
from nestlaid.boxes import Grid, Picture, Pile, Row, Words
from nestlaid.errors import (
    NoBox, NoFrame, NoHolder, NoName, NoPlace, NoSpot, NoStyle, NoText, NoTree, NoWords,
)
from nestlaid.styles import Style
from nestlaid.trees import WIDE, box_of, framed, holder_of, names_of, put, restyled, retold, taken

BIG = 10 ** 12 - 1
ONE_SPOT = (0, 0, 1, 1)
LETTERS = "abcdefghijklmnopqrstuvwxyz"
PLAIN = {
    Words: ("text",), Picture: ("across", "down"), Row: ("turn", "gap", "lane", "pack", "stands"),
    Pile: ("gap", "pack", "stands"), Grid: ("columns", "rows", "gap", "lane", "stands"),
}


def tie(name, side="wide", more=0):
    return ("as", name, side, more)


def sample():
    """A tree with each kind of box, and holders in holders of each kind."""
    grid = Grid(
        "g", [Words("h", "in a grid"), Row("i", [Picture("j", 4, 3)]), Pile("k", [])],
        [(0, 0, 1, 1), (1, 0, 2, 1), (0, 1, 2, 1)], columns=["fit", 5, ("share", 2)], rows=[2, "fit"],
        gap=1, lane=2, stands="end", style=Style(grow=1),
    )
    pile = Pile("c", [Words("d", "the cat"), Row("e", [], turn=True, gap=2, lane=1, pack="end", stands="base"), grid],
                gap=3, pack="middle", stands="start", style=Style(wide=tie("j", "tall", -2)))
    return Row("a", [Words("b", "", style=Style(wide=("part", 300))), pile, Picture("l", 1, 2)], gap=1)


SAMPLE_NAMES = ["a", "b", "c", "d", "e", "g", "h", "i", "j", "k", "l"]
SAMPLE_HOLDERS = {
    "a": None, "b": "a", "c": "a", "d": "c", "e": "c", "g": "c", "h": "g", "i": "g", "j": "i", "k": "g", "l": "a",
}
FORMS_OF_HOLDERS = ("a", "c", "e", "g", "i", "k")


def dump(box):
    """All of a tree in plain dicts and lists that may be changed."""
    told = {name: getattr(box, name) for name in PLAIN[type(box)]}
    told.update(kind=type(box).__name__, name=box.name, style=repr(box.style), boxes=[], spots=None)
    if type(box) in (Row, Pile, Grid):
        told["boxes"] = [dump(inner) for inner in box.boxes]
    if type(box) is Grid:
        told["spots"] = list(box.spots)
    return told


def found(told, name):
    """The dump of the named box within a dump."""
    if told["name"] == name:
        return told
    for inner in told["boxes"]:
        there = found(inner, name)
        if there is not None:
            return there
    return None


def listed(told, holder=None):
    """Tuples of name and holder, in order, of a dump."""
    rows = [(told["name"], holder)]
    for inner in told["boxes"]:
        rows += listed(inner, told["name"])
    return rows


def no_trees():
    """What is no tree: of other kinds, names twice, ties to nowhere, a first box that is a part."""
    a, b = Words("a", ""), Words("b", "")
    wrongs = odd_things() + ["a", [a], (a,), Words, Style(), {"a": a}]
    wrongs += [Row("a", [a]), Row("x", [a, a]), Pile("x", [a, b, Words("a", "other")]), Row("x", [Row("x", [])])]
    wrongs += [Row("x", [Pile("y", [a]), Row("z", [b, a])]), Row("x", [a, Pile("y", [Row("z", [b, Words("x", "")])])])]
    wrongs.append(Grid("x", [a, Row("y", [a])], [(0, 0, 1, 1), (0, 1, 1, 1)], columns=[1], rows=[1, 1]))
    for name in ("wide", "high"):
        loose = Style(**{name: tie("nowhere")})
        wrongs += [Words("x", "", style=loose), Row("x", [a, Words("y", "", style=loose)]), Row("x", [a], style=loose)]
        wrongs += [Row("x", [Pile("y", [Picture("z", 1, 1, style=Style(**{name: tie("xy", "tall")}))])])]
        part = Style(**{name: ("part", 500)})
        wrongs += [Words("x", "", style=part), Row("x", [a, b], style=part), Picture("x", 1, 1, style=part)]
        wrongs += [Grid("x", [], [], columns=[1], rows=[1], style=Style(**{name: ("part", 0)}))]
    return wrongs


def no_names_of_the_sample():
    """What is no name of the sample's; f is a name that none of its boxes has."""
    return odd_things() + ["f", "A", "aa", "a ", " a", "abcdefgh", ("a",), ["a"], b"a", sample(), Words("a", "")]


def some_tree(numbers, names, depth):
    """A tree as if by chance, of the names that are left."""
    name = names.pop()
    kind = numbers.one_of((Words, Picture, Row, Pile, Grid) if depth else (Words, Picture))
    style = Style(grow=numbers.below(3), rims=(numbers.below(2), 0, 0, 1))
    if kind is Words:
        return Words(name, numbers.one_of(("", "a b", "the cat\nsat")), style=style)
    if kind is Picture:
        return Picture(name, 1 + numbers.below(4), 1 + numbers.below(4), style=style)
    boxes = [some_tree(numbers, names, depth - 1) for _ in range(numbers.below(4)) if len(names) > 20]
    stands = numbers.one_of(("start", "base"))
    if kind is Row:
        return Row(name, boxes, turn=numbers.one_of((True, False)), gap=numbers.below(3), stands=stands, style=style)
    if kind is Pile:
        return Pile(name, boxes, gap=numbers.below(3), pack="end", stands=stands, style=style)
    spots = [(at, 0, 1, 1 + numbers.below(2)) for at in range(len(boxes))]
    return Grid(name, boxes, spots, columns=["fit"] * 5, rows=[1, ("share", 2)], gap=1, stands=stands, style=style)


def some_trees(seed, many):
    numbers = Numbers(seed)
    for _ in range(many):
        names = [first + second for first in LETTERS for second in "ab"]
        holders = [some_tree(numbers, names, 3) for _ in range(1 + numbers.below(3))]
        yield numbers, Row("top", holders)


class TreeCase(unittest.TestCase):
    def check_new(self, tree, before, new, right):
        """The new tree is as told, and the old one stays."""
        self.assertEqual(dump(new), right)
        self.assertEqual(dump(tree), before)
        self.assertEqual(names_of(new), [name for name, holder in listed(right)])

    def check_refused(self, error, asked, tree, *told, **named):
        """The refusal, and the tree that was handed in stays."""
        before = dump(tree)
        refused(self, error, asked, tree, *told, **named)
        self.assertEqual(dump(tree), before)

    def check_no_trees_go_first(self, asked, *told, **named):
        for wrong in no_trees():
            refused(self, NoTree, asked, wrong, *told, **named)

    def check_put(self, tree, holder, at, box, spot=None):
        right = dump(tree)
        there = found(right, holder)
        there["boxes"].insert(at, dump(box))
        if there["spots"] is not None:
            there["spots"].insert(at, spot)
        before, inner = dump(tree), dump(box)
        self.check_new(tree, before, put(tree, holder, at, box, spot=spot), right)
        self.check_new(tree, before, put(spot=spot, box=box, at=at, holder=holder, tree=tree), right)
        self.assertEqual(dump(box), inner)

    def check_taken(self, tree, name, holder):
        right = dump(tree)
        there = found(right, holder)
        at = [inner["name"] for inner in there["boxes"]].index(name)
        del there["boxes"][at]
        if there["spots"] is not None:
            del there["spots"][at]
        before = dump(tree)
        self.check_new(tree, before, taken(tree, name), right)
        self.check_new(tree, before, taken(name=name, tree=tree), right)

    def check_restyled(self, tree, name, style):
        right = dump(tree)
        found(right, name)["style"] = repr(style)
        before = dump(tree)
        self.check_new(tree, before, restyled(tree, name, style), right)
        self.check_new(tree, before, restyled(style=style, name=name, tree=tree), right)

    def check_retold(self, tree, name, text):
        right = dump(tree)
        found(right, name)["text"] = text
        before = dump(tree)
        self.check_new(tree, before, retold(tree, name, text), right)
        self.check_new(tree, before, retold(text=text, name=name, tree=tree), right)


class NamesTest(TreeCase):
    def test_of_one_box(self):
        boxes = [Words("a", ""), Picture("a", 1, 1), Row("a", []), Pile("a", []), Grid("a", [], [], columns=[1], rows=[1])]
        for box in boxes:
            self.assertEqual(names_of(box), ["a"])
            self.assertIs(box_of(box, "a"), box)
            self.assertIsNone(holder_of(box, "a"))

    def test_of_the_sample(self):
        tree = sample()
        self.assertEqual(names_of(tree), SAMPLE_NAMES)
        self.assertEqual(names_of(tree=tree), SAMPLE_NAMES)
        for name in SAMPLE_NAMES:
            self.assertEqual(dump(box_of(tree, name)), found(dump(tree), name))
            self.assertEqual(box_of(name=name, tree=tree).name, name)
            self.assertEqual(holder_of(tree, name), SAMPLE_HOLDERS[name])
            self.assertEqual(holder_of(name=name, tree=tree), SAMPLE_HOLDERS[name])

    def test_order_is_that_of_the_boxes_not_of_the_letters(self):
        tree = Row("m", [Pile("z", [Words("b", ""), Words("a", "")]), Words("y", ""), Row("c", [Words("x", "")])])
        self.assertEqual(names_of(tree), ["m", "z", "b", "a", "y", "c", "x"])

    def test_the_same_as_those_of_other_trees(self):
        for numbers, tree in some_trees(12, 60):
            rows = listed(dump(tree))
            self.assertEqual(names_of(tree), [name for name, holder in rows])
            for name, holder in rows:
                self.assertEqual(holder_of(tree, name), holder)
                self.assertEqual(dump(box_of(tree, name)), found(dump(tree), name))

    def test_a_box_within_a_tree_is_a_tree_of_its_own(self):
        tree = sample()
        self.assertEqual(names_of(box_of(tree, "g")), ["g", "h", "i", "j", "k"])
        self.assertIsNone(holder_of(box_of(tree, "g"), "g"))
        refused(self, NoName, holder_of, box_of(tree, "g"), "a")

    def test_what_is_no_tree(self):
        self.check_no_trees_go_first(names_of)
        for name in ("a", "x", None, Hostile()):
            self.check_no_trees_go_first(box_of, name)
            self.check_no_trees_go_first(holder_of, name)

    def test_a_part_of_a_tree_that_would_be_none_as_a_first_box(self):
        tree = sample()
        refused(self, NoTree, names_of, box_of(tree, "b"))
        refused(self, NoTree, names_of, Pile("x", [Words("y", "", style=Style(high=tie("z")))]))

    def test_ties_that_hold(self):
        for name, side in itertools.product(("a", "b", "c", "d"), ("wide", "tall")):
            style = Style(wide=tie(name, side, 3), high=tie(name, side, -3))
            tree = Row("a", [Words("b", "", style=style), Pile("c", [Words("d", "", style=style)])], style=style)
            self.assertEqual(names_of(tree), ["a", "b", "c", "d"])

    def test_parts_within(self):
        style = Style(wide=("part", 500), high=("part", 500))
        tree = Row("a", [Pile("b", [Words("c", "", style=style)], style=style)])
        self.assertEqual(names_of(tree), ["a", "b", "c"])

    def test_a_tie_to_a_name_below_a_box_of_which_one_is_a_part(self):
        self.assertEqual(names_of(Row("a", [Words("b", "")], style=Style(wide=tie("b"), high=9))), ["a", "b"])

    def test_what_is_no_name(self):
        for wrong in no_names_of_the_sample():
            self.check_refused(NoName, box_of, sample(), wrong)
            self.check_refused(NoName, holder_of, sample(), wrong)

    def test_the_list_is_the_askers_own(self):
        tree = sample()
        told = names_of(tree)
        told.clear()
        told.append("z")
        self.assertEqual(names_of(tree), SAMPLE_NAMES)
        self.assertIsNot(names_of(tree), names_of(tree))

    def test_limits_and_somewhat_beyond(self):
        for many in (40, 41, 90):
            names = [first + second for first in LETTERS for second in LETTERS][:many]
            flat = Row("top", [Words(name, "") for name in names[:20]] + [Pile("p", [Words(n, "") for n in names[20:]])])
            self.assertEqual(names_of(flat), ["top", *names[:20], "p", *names[20:]])
        for many in (10, 11, 60):
            names = [first + second for first in LETTERS for second in LETTERS][:many]
            deep = Words("last", "")
            for name in reversed(names):
                deep = Pile(name, [deep])
            self.assertEqual(names_of(deep), [*names, "last"])
            self.assertEqual(holder_of(deep, "last"), names[-1])
            self.check_retold(deep, "last", "the cat")
            self.check_put(deep, names[-1], 0, Words("z", ""))

    def test_a_name_twice_is_found_at_once(self):
        box = Words("a", "")
        for at in range(60):
            box = Row("r", [box, box])
        refused(self, NoTree, names_of, box)


class FrameTest(unittest.TestCase):
    def test_wide_where_it_is_not_told(self):
        self.assertEqual(WIDE, 80)
        self.assertEqual(framed(), (80, None))
        self.assertEqual(framed(high=5), (80, 5))

    def test_told(self):
        for wide, high in ((0, 0), (0, None), (1, 1), (80, 24), (BIG, BIG), (10 ** 15, 10 ** 15), (7, None)):
            self.assertEqual(framed(wide=wide, high=high), (wide, high))

    def test_refused(self):
        for wrong in no_counts():
            refused(self, NoFrame, framed, wide=wrong)
            refused(self, NoFrame, framed, wide=wrong, high=3)
            refused(self, NoFrame, framed, wide=wrong, high=wrong)
            if wrong is not None:
                refused(self, NoFrame, framed, high=wrong)
                refused(self, NoFrame, framed, wide=3, high=wrong)


class PutTest(TreeCase):
    def test_at_each_place_of_each_holder(self):
        tree = sample()
        for holder in ("a", "c", "e", "i", "k"):
            for at in range(len(box_of(tree, holder).boxes) + 1):
                self.check_put(tree, holder, at, Words("f", "new"))

    def test_in_a_grid_with_a_spot(self):
        tree = sample()
        for at in range(4):
            self.check_put(tree, "g", at, Words("f", "new"), (2, 1, 1, 1))
        empty = Grid("a", [], [], columns=[1, 2], rows=["fit"])
        for spot in ((0, 0, 1, 1), (1, 0, 1, 1), (0, 0, 2, 1)):
            self.check_put(empty, "a", 0, Words("f", ""), spot)

    def test_a_box_with_all_within_it(self):
        inner = Row("f", [Pile("m", [Words("n", "the dog")]), Picture("o", 2, 2)], gap=4, style=Style(wide=("part", 500)))
        self.check_put(sample(), "e", 0, inner)
        self.check_put(sample(), "g", 1, inner, (2, 1, 1, 1))

    def test_a_box_whose_ties_hold_in_the_new_tree_alone(self):
        self.check_put(sample(), "k", 0, Words("f", "", style=Style(high=tie("a", "tall"))))
        self.check_put(sample(), "k", 0, Row("f", [Words("m", "", style=Style(wide=tie("l")))]))

    def test_without_a_spot_by_its_default(self):
        new = put(sample(), "e", 0, Words("f", ""))
        self.assertEqual(holder_of(new, "f"), "e")
        refused(self, NoSpot, put, sample(), "g", 0, Words("f", ""))

    def test_spots_by_name_alone(self):
        with self.assertRaises(TypeError):
            put(sample(), "g", 0, Words("f", ""), (2, 1, 1, 1))

    def test_in_many_trees(self):
        for numbers, tree in some_trees(13, 60):
            names = names_of(tree)
            holder = numbers.one_of([name for name in names if type(box_of(tree, name)) in (Row, Pile)])
            at = numbers.below(len(box_of(tree, holder).boxes) + 1)
            self.check_put(tree, holder, at, Row("new", [Words("newer", "")]))

    def test_no_tree(self):
        self.check_no_trees_go_first(put, "a", 0, Words("f", ""))
        self.check_no_trees_go_first(put, Hostile(), Hostile(), Hostile(), spot=Hostile())

    def test_no_name(self):
        for wrong in no_names_of_the_sample():
            self.check_refused(NoName, put, sample(), wrong, 0, Words("f", ""))
            self.check_refused(NoName, put, sample(), wrong, Hostile(), Hostile(), spot=Hostile())

    def test_no_holder(self):
        for name in ("b", "d", "h", "j", "l"):
            self.check_refused(NoHolder, put, sample(), name, 0, Words("f", ""))
            self.check_refused(NoHolder, put, sample(), name, Hostile(), Hostile(), spot=Hostile())

    def test_no_place(self):
        tree = sample()
        for holder in FORMS_OF_HOLDERS:
            many = len(box_of(tree, holder).boxes)
            for wrong in [*no_counts(), many + 1, many + 2, BIG, 10 ** 15, "0", (0,), [0]]:
                self.check_refused(NoPlace, put, tree, holder, wrong, Words("f", ""))
                self.check_refused(NoPlace, put, tree, holder, wrong, Hostile(), spot=Hostile())

    def test_no_box(self):
        for wrong in [*odd_things(), "f", Words, Style(), [Words("f", "")], (Words("f", ""),)]:
            self.check_refused(NoBox, put, sample(), "e", 0, wrong)
            self.check_refused(NoBox, put, sample(), "g", 0, wrong, spot=(2, 1, 1, 1))
            for holder in FORMS_OF_HOLDERS:
                self.check_refused(NoBox, put, sample(), holder, 0, wrong, spot=Hostile())

    def test_no_spot_where_it_is_no_grid(self):
        for wrong in [x for x in odd_things() if x is not None] + [ONE_SPOT, (2, 1, 1, 1)]:
            for holder in ("a", "c", "e", "i", "k"):
                self.check_refused(NoSpot, put, sample(), holder, 0, Words("f", ""), spot=wrong)

    def test_no_spot_in_a_grid(self):
        wrongs = odd_things() + [(2, 1, 1), (2, 1, 1, 1, 1), [2, 1, 1, 1], (2, 1, 1, 2), (2, 1, 2, 1), (3, 1, 1, 1)]
        wrongs += [(2, 2, 1, 1), (2, 1, 0, 1), (2, 1, 1, 0), (2, -1, 1, 1), (2, 1, 1, True), (2, 1, BIG, BIG)]
        wrongs += [(0, 0, 1, 1), (1, 0, 1, 1), (1, 1, 2, 1), (2, 0, 1, 2), (0, 0, 3, 2), (1, 1, 1, 1)]
        for wrong in wrongs:
            for at in range(4):
                self.check_refused(NoSpot, put, sample(), "g", at, Words("f", ""), spot=wrong)

    def test_no_spot_goes_ahead_of_what_would_be_no_tree(self):
        self.check_refused(NoSpot, put, sample(), "e", 0, Words("a", ""), spot=ONE_SPOT)
        self.check_refused(NoSpot, put, sample(), "g", 0, Words("a", ""))
        self.check_refused(NoSpot, put, sample(), "g", 0, Words("a", ""), spot=ONE_SPOT)

    def test_what_would_be_no_tree(self):
        wrongs = [Words(name, "") for name in SAMPLE_NAMES]
        wrongs += [Row("f", [Words(name, "")]) for name in (*SAMPLE_NAMES, "f")]
        wrongs += [Words("f", "", style=Style(wide=tie("m"))), Row("f", [Words("m", "", style=Style(high=tie("n")))])]
        wrongs += [Row("f", [Words("m", ""), Pile("m", [])]), sample()]
        for wrong in wrongs:
            for holder in ("a", "c", "e", "i", "k"):
                self.check_refused(NoTree, put, sample(), holder, 0, wrong)
            self.check_refused(NoTree, put, sample(), "g", 0, wrong, spot=(2, 1, 1, 1))


class TakenTest(TreeCase):
    def test_each_that_leaves_no_tie(self):
        tree = sample()
        for name in SAMPLE_NAMES[1:]:
            if name in ("g", "i", "j"):
                # The tie to j stands in c, without these.
                self.check_refused(NoTree, taken, tree, name)
            else:
                self.check_taken(tree, name, SAMPLE_HOLDERS[name])

    def test_of_a_grid_with_its_spot(self):
        tree = sample()
        grid = box_of(taken(tree, "h"), "g")
        self.assertEqual(grid.spots, ((1, 0, 2, 1), (0, 1, 2, 1)))
        self.check_taken(tree, "k", "g")
        self.check_put(taken(tree, "h"), "g", 0, Words("f", ""), (0, 0, 1, 1))

    def test_the_tie_goes_with_its_box(self):
        tree = Row("a", [Words("b", ""), Pile("c", [Words("d", "", style=Style(wide=tie("b")))])])
        self.check_refused(NoTree, taken, tree, "b")
        self.check_taken(tree, "d", "c")
        self.check_taken(tree, "c", "a")
        self.check_taken(taken(tree, "d"), "b", "a")

    def test_a_tie_to_itself_goes_too(self):
        tree = Row("a", [Words("b", "", style=Style(high=tie("b", "wide")))])
        self.check_taken(tree, "b", "a")

    def test_a_tie_of_the_first_box_would_be_left(self):
        for name in ("wide", "high"):
            tree = Row("a", [Pile("b", [Words("c", "")])], style=Style(**{name: tie("c", "tall")}))
            self.check_refused(NoTree, taken, tree, "c")
            self.check_refused(NoTree, taken, tree, "b")

    def test_in_many_trees(self):
        for numbers, tree in some_trees(14, 60):
            name = numbers.one_of(names_of(tree)[1:])
            self.check_taken(tree, name, holder_of(tree, name))

    def test_what_was_put_is_taken(self):
        tree = sample()
        for holder in ("a", "c", "e", "i", "k"):
            self.assertEqual(taken(put(tree, holder, 0, Words("f", "")), "f"), tree)
        self.assertEqual(taken(put(tree, "g", 2, Words("f", ""), spot=(2, 1, 1, 1)), "f"), tree)

    def test_no_tree(self):
        self.check_no_trees_go_first(taken, "a")
        self.check_no_trees_go_first(taken, Hostile())

    def test_no_name(self):
        for wrong in no_names_of_the_sample():
            self.check_refused(NoName, taken, sample(), wrong)

    def test_no_holder(self):
        self.check_refused(NoHolder, taken, sample(), "a")
        self.check_refused(NoHolder, taken, Words("a", ""), "a")
        self.check_refused(NoHolder, taken, Words("a", "", style=Style(wide=tie("a"))), "a")


class RestyledTest(TreeCase):
    def test_each(self):
        styles = (Style(), Style(wide=3), Style(wide=tie("h", "tall", 2), high=tie("a")), Style(rims=(1, 2, 3, 4)))
        for name, style in itertools.product(SAMPLE_NAMES, styles):
            self.check_restyled(sample(), name, style)

    def test_parts_of_all_but_the_first(self):
        for told in ({"wide": ("part", 500)}, {"high": ("part", 0)}):
            for name in SAMPLE_NAMES[1:]:
                self.check_restyled(sample(), name, Style(**told))
            self.check_refused(NoTree, restyled, sample(), "a", Style(**told))

    def test_a_tie_that_is_gone_frees_its_box(self):
        free = restyled(sample(), "c", Style())
        self.check_taken(free, "g", "c")

    def test_in_many_trees(self):
        for numbers, tree in some_trees(15, 60):
            names = names_of(tree)
            style = Style(high=tie(numbers.one_of(names)), least_wide=numbers.below(9))
            self.check_restyled(tree, numbers.one_of(names), style)

    def test_no_tree(self):
        self.check_no_trees_go_first(restyled, "a", Style())
        self.check_no_trees_go_first(restyled, Hostile(), Hostile())

    def test_no_name(self):
        for wrong in no_names_of_the_sample():
            self.check_refused(NoName, restyled, sample(), wrong, Style())
            self.check_refused(NoName, restyled, sample(), wrong, Hostile())

    def test_no_style(self):
        for wrong in [*odd_things(), Style, "Style()", {"wide": 3}, Words("a", "")]:
            for name in SAMPLE_NAMES:
                self.check_refused(NoStyle, restyled, sample(), name, wrong)

    def test_what_would_be_no_tree(self):
        for told in ({"wide": tie("f")}, {"high": tie("nowhere", "tall")}):
            for name in SAMPLE_NAMES:
                self.check_refused(NoTree, restyled, sample(), name, Style(**told))


class RetoldTest(TreeCase):
    def test_each(self):
        for name, text in itertools.product(("b", "d", "h"), ("", "the dog", "a\n\nb ", "x" * 400, "x " * 250)):
            self.check_retold(sample(), name, text)
        self.check_retold(Words("a", "the cat", style=Style(wide=3)), "a", "the dog")

    def test_in_many_trees(self):
        for numbers, tree in some_trees(16, 60):
            for name in names_of(tree):
                if type(box_of(tree, name)) is Words:
                    self.check_retold(tree, name, "the dog")

    def test_no_tree(self):
        self.check_no_trees_go_first(retold, "a", "")
        self.check_no_trees_go_first(retold, Hostile(), Hostile())

    def test_no_name(self):
        for wrong in no_names_of_the_sample():
            self.check_refused(NoName, retold, sample(), wrong, "")
            self.check_refused(NoName, retold, sample(), wrong, Hostile())

    def test_no_words(self):
        for name in ("a", "c", "e", "g", "i", "j", "k", "l"):
            self.check_refused(NoWords, retold, sample(), name, "the dog")
            self.check_refused(NoWords, retold, sample(), name, Hostile())

    def test_no_text(self):
        for wrong in no_texts():
            for name in ("b", "d", "h"):
                self.check_refused(NoText, retold, sample(), name, wrong)
        self.assertEqual(refused(self, NoText, retold, sample(), "b", None).line, 0)


if __name__ == "__main__":
    unittest.main()
