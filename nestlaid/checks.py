"""What several parts of the program ask of the things that are handed in to them."""

from nestlaid.errors import NoName, NoSpot, NoTrack
from nestlaid.shares import is_count

LETTERS = "abcdefghijklmnopqrstuvwxyz"
LONGEST_NAME = 8


def is_name(thing):
    """True just where the thing is a text of one to eight small letters."""
    if not isinstance(thing, str) or len(thing) < 1 or len(thing) > LONGEST_NAME:
        return False
    return all([sign in LETTERS for sign in thing])


def is_one_of(thing, words):
    """True just where the thing is a text, and one of these words."""
    # The kind is asked first: a thing of another kind might be == to a word, or fail when it is compared.
    return isinstance(thing, str) and thing in words


def is_from_one(thing):
    """True just where the thing is a whole number from 1 on."""
    return is_count(thing) and thing > 0


def refuse_no_name(thing):
    if not is_name(thing):
        raise NoName("a name is a text of one to eight small letters")


def is_track(thing):
    """True just where the thing is a track of a grid: so many cells, "fit", or a share."""
    return is_count(thing) or is_one_of(thing, ("fit",)) or is_share(thing)


def is_share(thing):
    """True just where the thing is a track that takes a share."""
    return isinstance(thing, tuple) and len(thing) == 2 and is_one_of(thing[0], ("share",)) and is_from_one(thing[1])


def refuse_no_tracks(things):
    if not isinstance(things, list) or len(things) == 0:
        raise NoTrack("this is no list of tracks, one at least")
    if not all([is_track(thing) for thing in things]):
        raise NoTrack("a track is a whole number from 0 on, 'fit', or ('share', k)")


def is_spot(thing, columns, rows):
    """True just where the thing is a spot in a grid of so many columns and rows."""
    if not isinstance(thing, tuple) or len(thing) != 4 or not all([is_count(part) for part in thing]):
        return False
    column, row, across, down = thing
    return across > 0 and down > 0 and column + across <= columns and row + down <= rows


def meet(one, other):
    """True just where two spots have a column and a row in common."""
    column, row, across, down = one
    other_column, other_row, other_across, other_down = other
    beside = column + across <= other_column or other_column + other_across <= column
    below = row + down <= other_row or other_row + other_down <= row
    return not beside and not below


def refuse_no_spots(things, many, columns, rows):
    """Lets pass a list of so many spots alone, none upon another one, in a grid of so many columns and rows."""
    if not isinstance(things, list) or len(things) != many:
        raise NoSpot("this is no list of one spot for each box")
    if not all([is_spot(thing, columns, rows) for thing in things]):
        raise NoSpot("a spot is a tuple (column, row, columns, rows) within the grid")
    for at, spot in enumerate(things):
        if any([meet(spot, other) for other in things[:at]]):
            raise NoSpot("two spots have a column and a row in common")
