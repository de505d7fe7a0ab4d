"""Deeds, told as tuples, and the tree and frame behind them."""

from nestlaid.checks import is_one_of
from nestlaid.errors import NoDeed
from nestlaid.trees import framed, put, restyled, retold, taken

LENGTHS = {"put": 5, "take": 2, "restyle": 3, "retell": 3, "frame": 3}


def refuse_no_deeds(things):
    if not isinstance(things, list) or not all([is_deed(thing) for thing in things]):
        raise NoDeed("this is no list of deeds")


def is_deed(thing):
    """True just where the thing is a tuple of a deed's word and of as many more things as go with it."""
    if not isinstance(thing, tuple) or len(thing) == 0 or not is_one_of(thing[0], list(LENGTHS)):
        return False
    return len(thing) == LENGTHS[thing[0]]


def behind_deed(tree, bounds, deed):
    """The tree and the frame as they are behind the deed."""
    if deed[0] == "put":
        word, holder, at, box, spot = deed
        return put(tree, holder, at, box, spot=spot), bounds
    if deed[0] == "take":
        word, name = deed
        return taken(tree, name), bounds
    if deed[0] == "restyle":
        word, name, style = deed
        return restyled(tree, name, style), bounds
    if deed[0] == "retell":
        word, name, text = deed
        return retold(tree, name, text), bounds
    word, wide, high = deed
    return tree, framed(wide=wide, high=high)
