"""Styles: how big a box is told to be, how it grows and shrinks, its rims, and how it stands."""

from nestlaid.checks import is_name, is_one_of
from nestlaid.errors import NoStyle
from nestlaid.shares import is_count, is_whole

NO_RIMS = (0, 0, 0, 0)
SIDES = ("wide", "tall")
STANDS = ("start", "end", "middle", "stretch", "base")


class Style:
    """What is told of a box beside what is in it; once made it never changes."""

    def __init__(self, *, wide=None, high=None, least_wide=None, least_high=None, most_wide=None, most_high=None,
                 grow=0, shrink=1, rims=NO_RIMS, stand=None):
        refuse_unless(is_size(wide) and is_size(high), "a told size isn't one")
        bounds = [least_wide, least_high, most_wide, most_high]
        refuse_unless(all([is_bound(bound) for bound in bounds]), "a least or a most isn't one")
        refuse_unless(is_count(grow) and is_count(shrink), "grow or shrink isn't a whole number from 0 on")
        refuse_unless(are_rims(rims), "rims are a tuple of four whole numbers from 0 on")
        refuse_unless(stand is None or is_one_of(stand, STANDS), "this is no stand")
        self.wide = wide
        self.high = high
        self.least_wide = least_wide
        self.least_high = least_high
        self.most_wide = most_wide
        self.most_high = most_high
        self.grow = grow
        self.shrink = shrink
        self.rims = rims
        self.stand = stand

    def __eq__(self, other):
        return isinstance(other, Style) and fields_of(self) == fields_of(other)

    def __repr__(self):
        return f"Style({told_fields(self)})"


def fields_of(style):
    """Each field in the document's order: its name, what it is, and its default."""
    return [
        ("wide", style.wide, None),
        ("high", style.high, None),
        ("least_wide", style.least_wide, None),
        ("least_high", style.least_high, None),
        ("most_wide", style.most_wide, None),
        ("most_high", style.most_high, None),
        ("grow", style.grow, 0),
        ("shrink", style.shrink, 1),
        ("rims", style.rims, NO_RIMS),
        ("stand", style.stand, None),
    ]


def told_fields(style):
    """The fields that aren't their defaults, each as it would be handed in."""
    return ", ".join([f"{name}={told!r}" for name, told, default in fields_of(style) if told != default])


def refuse_unless(right, why):
    if not right:
        raise NoStyle(why)


def is_size(thing):
    """True just where the thing is a told size: none, so many cells, a part or a tie."""
    return thing is None or is_count(thing) or is_part(thing) or is_tie(thing)


def is_part(thing):
    """True just where the thing is a size of so many thousandths of the holder's inside."""
    return isinstance(thing, tuple) and len(thing) == 2 and is_one_of(thing[0], ("part",)) and is_count(thing[1])


def is_tie(thing):
    """True just where the thing is a size as that of a named box, and so many cells more."""
    if not isinstance(thing, tuple) or len(thing) != 4:
        return False
    word, name, side, more = thing
    return is_one_of(word, ("as",)) and is_name(name) and is_one_of(side, SIDES) and is_whole(more)


def is_bound(thing):
    return thing is None or is_count(thing)


def are_rims(thing):
    return isinstance(thing, tuple) and len(thing) == 4 and all([is_count(rim) for rim in thing])
