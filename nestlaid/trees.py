"""Trees of boxes: what stands in them, new ones made of them, and the frames in which they lie."""

from nestlaid.boxes import Box, Grid, Words, boxes_in, is_holder, spots_in, with_boxes, with_style
from nestlaid.errors import NoBox, NoFrame, NoHolder, NoName, NoPlace, NoSpot, NoStyle, NoTree, NoWords
from nestlaid.shares import is_count
from nestlaid.styles import Style, is_part, is_tie

WIDE = 80


def names_of(tree):
    """The names of the tree, in order."""
    return list(looked_through(tree))


def box_of(tree, name):
    """The box of this name."""
    box, holder = looked_up(looked_through(tree), name)
    return box


def holder_of(tree, name):
    """The name of the box right in which the named one is, None of the first one."""
    box, holder = looked_up(looked_through(tree), name)
    return holder


def put(tree, holder, at, box, *, spot=None):
    """The tree with the box, too, in the named holder, as the one with the number at (in a grid with a spot)."""
    found = looked_through(tree)
    around, above = looked_up(found, holder)
    if not is_holder(around):
        raise NoHolder("the named box is no holder")
    if not is_count(at) or at > len(around.boxes):
        raise NoPlace("this is no place among the holder's boxes")
    if not isinstance(box, Box):
        raise NoBox("this is no box")
    if spot is not None and not isinstance(around, Grid):
        raise NoSpot("a spot is told in a grid alone")
    boxes = with_one_more(boxes_in(around), at, box)
    # A new grid refuses a spot that may not stand in it.
    spots = with_one_more(spots_in(around), at, spot)
    return itself_if_a_tree(with_another(found, with_boxes(around, boxes, spots)))


def taken(tree, name):
    """The tree without the named box and all within it."""
    found = looked_through(tree)
    box, holder = looked_up(found, name)
    if holder is None:
        raise NoHolder("the first box isn't taken out")
    around, above = found[holder]
    at = [inner.name for inner in around.boxes].index(name)
    boxes = with_one_less(boxes_in(around), at)
    spots = with_one_less(spots_in(around), at)
    return itself_if_a_tree(with_another(found, with_boxes(around, boxes, spots)))


def restyled(tree, name, style):
    """The tree with another style of the named box."""
    found = looked_through(tree)
    box, holder = looked_up(found, name)
    # Asked here, as a box takes None, too, for a style that isn't told.
    if not isinstance(style, Style):
        raise NoStyle("this is no style")
    return itself_if_a_tree(with_another(found, with_style(box, style)))


def retold(tree, name, text):
    """The tree with another text of the named words."""
    found = looked_through(tree)
    box, holder = looked_up(found, name)
    if not isinstance(box, Words):
        raise NoWords("the named box isn't words")
    return with_another(found, Words(box.name, text, style=box.style))


def framed(*, wide=WIDE, high=None):
    """The frame, a tuple (wide, high); high is None where it is as high as the tree needs."""
    if not is_count(wide):
        raise NoFrame("a frame's wide is a whole number from 0 on")
    if high is not None and not is_count(high):
        raise NoFrame("a frame's high is a whole number from 0 on, or None")
    return wide, high


def looked_through(tree):
    """A dict from each name, in the tree's order, to a tuple: its box and its holder's name."""
    if not isinstance(tree, Box):
        raise NoTree("this is no box")
    found = {}
    waiting = [(tree, None)]
    while len(waiting) > 0:
        box, holder = waiting.pop()
        if box.name in found:
            raise NoTree("a name stands twice")
        found[box.name] = (box, holder)
        # The last one is looked at first, so they wait in the other order.
        waiting.extend([(inner, box.name) for inner in reversed(boxes_in(box))])
    refuse_wrong_sizes(tree, found)
    return found


def refuse_wrong_sizes(tree, found):
    if is_part(tree.style.wide) or is_part(tree.style.high):
        raise NoTree("the first box has no holder of which it could be a part")
    for box, holder in found.values():
        for size in (box.style.wide, box.style.high):
            if is_tie(size) and size[1] not in found:
                raise NoTree("a told size is tied to a name that stands nowhere")


def itself_if_a_tree(tree):
    looked_through(tree)
    return tree


def looked_up(found, name):
    """The box of the name and its holder's name."""
    if not isinstance(name, str) or name not in found:
        raise NoName("no box of the tree has this name")
    return found[name]


def with_another(found, box):
    """The tree with this box in the place of the one that has its name."""
    old, holder = found[box.name]
    while holder is not None:
        around, above = found[holder]
        boxes = [box if inner.name == box.name else inner for inner in around.boxes]
        box = with_boxes(around, boxes, list(spots_in(around)))
        holder = above
    return box


def with_one_more(things, at, thing):
    return list(things[:at]) + [thing] + list(things[at:])


def with_one_less(things, at):
    return list(things[:at]) + list(things[at + 1:])
