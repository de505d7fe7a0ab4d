import itertools
import unittest

from helper import Hostile, is_plain_whole, no_counts, odd_things, refused
from nestlaid.errors import NoStyle
from nestlaid.styles import NO_RIMS, Style

BIG = 10 ** 12 - 1
DEFAULTS = {
    "wide": None, "high": None, "least_wide": None, "least_high": None, "most_wide": None, "most_high": None,
    "grow": 0, "shrink": 1, "rims": (0, 0, 0, 0), "stand": None,
}
SIZES = ("wide", "high")
BOUNDS = ("least_wide", "least_high", "most_wide", "most_high")
STANDS = ("start", "end", "middle", "stretch", "base")
RIGHT_SIZES = (
    None, 0, 1, 20, BIG, 10 ** 15,
    ("part", 0), ("part", 1), ("part", 500), ("part", 1000), ("part", 2500), ("part", BIG), ("part", 10 ** 15),
    ("as", "a", "wide", 0), ("as", "z", "tall", 0), ("as", "abcdefgh", "wide", 7), ("as", "hgfedcba", "tall", -7),
    ("as", "part", "wide", BIG), ("as", "as", "tall", -BIG),
)
OTHER = {
    "wide": 20, "high": ("part", 500), "least_wide": 3, "least_high": 0, "most_wide": 0, "most_high": 9,
    "grow": 2, "shrink": 0, "rims": (1, 2, 3, 4), "stand": "end",
}


def fields_of(style):
    return {name: getattr(style, name) for name in DEFAULTS}


def no_names():
    """What is no name, of any kind, each just beside one."""
    near = ["", "abcdefghi", "A", "aB", "a1", "a b", " a", "a ", "a\n", "\n", "a-b", "a_b", "_", "1", "\u00e4", "\u00df"]
    return [x for x in odd_things() if type(x) is not str] + near


def no_parts():
    wrongs = [("part",), ("part", 1, 2), ("part", 1, "wide", 0), (1, "part"), ["part", 1], ("Part", 1), ("parts", 1)]
    wrongs += [("part", k) for k in no_counts()]
    return wrongs + [(word, 1) for word in odd_things()] + [("share", 1), ("as", 1), ("", 1), ("p", 1)]


def no_ties():
    wrongs = [("as",), ("as", "a"), ("as", "a", "wide"), ("as", "a", "wide", 0, 0), ["as", "a", "wide", 0]]
    wrongs += [("As", "a", "wide", 0), ("part", "a", "wide", 0), ("", "a", "wide", 0), ("a", "as", "wide", 0)]
    wrongs += [(word, "a", "wide", 0) for word in odd_things()]
    wrongs += [("as", name, "wide", 0) for name in no_names()]
    sides = [*odd_things(), "high", "Wide", "WIDE", "wid", "left", "wide "]
    wrongs += [("as", "a", side, 0) for side in sides]
    return wrongs + [("as", "a", "tall", more) for more in odd_things() if not is_plain_whole(more)]


def no_sizes():
    others = [x for x in no_counts() if x is not None] + ["part", "20", "fit", "None", (20,), (0, 0, 0, 0), {"part": 1}]
    return others + no_parts() + no_ties()


def no_rims():
    wrongs = odd_things() + [0, (), (0,), (0, 0, 0), (0, 0, 0, 0, 0), [0, 0, 0, 0], "0000", b"0000"]
    for at in range(4):
        for wrong in no_counts():
            rims = [1, 1, 1, 1]
            rims[at] = wrong
            wrongs.append(tuple(rims))
    return wrongs


def no_stands():
    near = ["", "Start", "START", "start ", " end", "mid", "bases", "between", "s", "start end", ("start",), ["end"]]
    return [x for x in odd_things() if x is not None] + near


class FieldsTest(unittest.TestCase):
    def check_fields(self, style, told):
        """All fields are as told, the others their defaults, of the same kinds."""
        right = {**DEFAULTS, **told}
        self.assertEqual(fields_of(style), right)
        for name, value in right.items():
            self.assertIs(type(getattr(style, name)), type(value))

    def test_no_rims(self):
        self.assertEqual(NO_RIMS, (0, 0, 0, 0))
        self.assertIs(type(NO_RIMS), tuple)

    def test_none_told(self):
        self.check_fields(Style(), {})

    def test_all_told(self):
        self.check_fields(Style(**OTHER), OTHER)

    def test_in_any_order(self):
        names = list(OTHER)
        for turn in range(len(names)):
            order = names[turn:] + names[:turn]
            self.check_fields(Style(**{name: OTHER[name] for name in order}), OTHER)
            self.check_fields(Style(**{name: OTHER[name] for name in order[::-1]}), OTHER)

    def test_some_told(self):
        for many in (1, 2, 3):
            for names in itertools.combinations(OTHER, many):
                told = {name: OTHER[name] for name in names}
                self.check_fields(Style(**told), told)

    def test_defaults_told(self):
        self.check_fields(Style(**DEFAULTS), {})

    def test_each_kind_of_size(self):
        for name in SIZES:
            for size in RIGHT_SIZES:
                self.check_fields(Style(**{name: size}), {name: size})

    def test_leasts_and_mosts(self):
        for name in BOUNDS:
            for bound in (None, 0, 1, 7, BIG, 10 ** 15):
                self.check_fields(Style(**{name: bound}), {name: bound})

    def test_a_most_below_its_least_is_let_be(self):
        told = {"least_wide": 9, "most_wide": 2, "least_high": 5, "most_high": 0}
        self.check_fields(Style(**told), told)

    def test_grow_and_shrink(self):
        for name in ("grow", "shrink"):
            for number in (0, 1, 2, BIG, 10 ** 15):
                self.check_fields(Style(**{name: number}), {name: number})

    def test_rims(self):
        for rims in ((0, 0, 0, 0), (1, 0, 0, 0), (0, 0, 0, 1), (1, 2, 3, 4), (BIG, BIG, BIG, BIG)):
            self.check_fields(Style(rims=rims), {"rims": rims})

    def test_stands(self):
        for stand in (None, *STANDS):
            self.check_fields(Style(stand=stand), {"stand": stand})

    def test_nothing_by_place(self):
        with self.assertRaises(TypeError):
            Style(20)


class RefusedTest(unittest.TestCase):
    def check_refused(self, name, wrongs):
        for wrong in wrongs:
            refused(self, NoStyle, Style, **{name: wrong})
            refused(self, NoStyle, Style, **{**OTHER, name: wrong})

    def test_sizes(self):
        for name in SIZES:
            self.check_refused(name, no_sizes())

    def test_leasts_and_mosts(self):
        wrongs = [x for x in no_counts() if x is not None] + ["3", (3,), [3], ("part", 3), ("as", "a", "wide", 0)]
        for name in BOUNDS:
            self.check_refused(name, wrongs)

    def test_grow_and_shrink(self):
        for name in ("grow", "shrink"):
            self.check_refused(name, [*no_counts(), "1", (1,), [1]])

    def test_rims(self):
        self.check_refused("rims", no_rims())

    def test_stands(self):
        self.check_refused("stand", no_stands())

    def test_all_wrong_at_once(self):
        refused(self, NoStyle, Style, **{name: Hostile() for name in DEFAULTS})

    def test_a_refusal_changes_nothing(self):
        size, rims = ["part", 500], [1, 1, 0, 0]
        refused(self, NoStyle, Style, wide=size)
        refused(self, NoStyle, Style, rims=rims)
        self.assertEqual((size, rims), (["part", 500], [1, 1, 0, 0]))
        self.assertEqual(fields_of(Style()), DEFAULTS)
        self.assertEqual(NO_RIMS, (0, 0, 0, 0))


class AlikeTest(unittest.TestCase):
    def check_alike(self, one, other, right):
        self.assertIs(one == other, right)
        self.assertIs(other == one, right)
        self.assertIs(one != other, not right)
        self.assertIs(other != one, not right)

    def test_alike(self):
        self.check_alike(Style(), Style(), True)
        self.check_alike(Style(), Style(**DEFAULTS), True)
        self.check_alike(Style(**OTHER), Style(**OTHER), True)
        style = Style(**OTHER)
        self.check_alike(style, style, True)

    def test_any_one_field_tells_two_apart(self):
        for name, told in OTHER.items():
            self.check_alike(Style(), Style(**{name: told}), False)
            self.check_alike(Style(**OTHER), Style(**{**OTHER, name: DEFAULTS[name]}), False)
            self.check_alike(Style(**{name: told}), Style(**{name: told}), True)

    def test_fields_are_not_taken_for_one_another(self):
        for one, other in itertools.combinations((*SIZES, *BOUNDS, "grow", "shrink"), 2):
            self.check_alike(Style(**{one: 7}), Style(**{other: 7}), False)

    def test_sizes(self):
        for name in SIZES:
            for (at, one), (place, other) in itertools.product(enumerate(RIGHT_SIZES), repeat=2):
                self.check_alike(Style(**{name: one}), Style(**{name: other}), at == place)

    def test_rims(self):
        for rims in itertools.permutations((0, 1, 2, 3)):
            self.check_alike(Style(rims=(0, 1, 2, 3)), Style(rims=rims), rims == (0, 1, 2, 3))

    def test_what_is_no_style(self):
        for thing in [*odd_things(), "Style()", DEFAULTS, Style]:
            # A thing that fails when it is compared isn't asked.
            self.assertIs(Style() == thing, False)
            self.assertIs(Style() != thing, True)

    def test_what_says_that_it_is_alike(self):
        class Yes:
            def __eq__(self, other):
                return True

        self.assertIs(Style() == Yes(), False)


class ReprTest(unittest.TestCase):
    def test_none_told(self):
        self.assertEqual(repr(Style()), "Style()")
        self.assertEqual(repr(Style(**DEFAULTS)), "Style()")

    def test_one_told(self):
        self.assertEqual(repr(Style(wide=20)), "Style(wide=20)")
        self.assertEqual(repr(Style(wide=0)), "Style(wide=0)")
        self.assertEqual(repr(Style(stand="end")), "Style(stand='end')")
        self.assertEqual(repr(Style(wide=("part", 500))), "Style(wide=('part', 500))")
        self.assertEqual(repr(Style(high=("as", "a", "tall", -2))), "Style(high=('as', 'a', 'tall', -2))")
        self.assertEqual(repr(Style(least_wide=0)), "Style(least_wide=0)")
        self.assertEqual(repr(Style(least_high=3)), "Style(least_high=3)")
        self.assertEqual(repr(Style(most_wide=0)), "Style(most_wide=0)")
        self.assertEqual(repr(Style(most_high=BIG)), "Style(most_high=999999999999)")
        self.assertEqual(repr(Style(grow=1)), "Style(grow=1)")
        self.assertEqual(repr(Style(shrink=0)), "Style(shrink=0)")
        self.assertEqual(repr(Style(rims=(1, 1, 0, 0))), "Style(rims=(1, 1, 0, 0))")

    def test_a_default_that_is_told_is_left_out(self):
        self.assertEqual(repr(Style(grow=0, shrink=1, rims=(0, 0, 0, 0), wide=3)), "Style(wide=3)")
        self.assertEqual(repr(Style(grow=1, shrink=0)), "Style(grow=1, shrink=0)")
        self.assertEqual(repr(Style(grow=0, shrink=0)), "Style(shrink=0)")

    def test_all_told_in_the_order_of_the_document(self):
        told = (
            "Style(wide=20, high=('part', 500), least_wide=3, least_high=0, most_wide=0, most_high=9, "
            "grow=2, shrink=0, rims=(1, 2, 3, 4), stand='end')"
        )
        self.assertEqual(repr(Style(**OTHER)), told)
        self.assertEqual(repr(Style(**{name: OTHER[name] for name in reversed(list(OTHER))})), told)

    def test_it_tells_the_same_style(self):
        for many in range(len(OTHER) + 1):
            for names in itertools.combinations(OTHER, many):
                style = Style(**{name: OTHER[name] for name in names})
                told = repr(style)
                self.assertEqual(eval(told, {"Style": Style}), style)
                self.assertEqual(told.count("="), len(names))


if __name__ == "__main__":
    unittest.main()
