"""The five kinds of boxes."""

from nestlaid.checks import is_from_one, is_one_of, refuse_no_name, refuse_no_spots, refuse_no_tracks
from nestlaid.errors import NoBox, NoNumber, NoPack, NoStand, NoStyle, NoTruth
from nestlaid.shares import refuse_no_counts
from nestlaid.styles import STANDS, Style
from nestlaid.wording import refuse_no_text

PACKS = ("start", "end", "middle", "between")


class Box:
    """What all kinds have; it is never made by itself. Once made a box never changes."""

    def __init__(self, name, style):
        self.name = name
        self.style = style

    def __eq__(self, other):
        return isinstance(other, Box) and same_record(self, other) and boxes_in(self) == boxes_in(other)


class Words(Box):
    """A text, broken into lines."""

    def __init__(self, name, text, *, style=None):
        refuse_no_name(name)
        refuse_no_text(text)
        super().__init__(name, told_style(style))
        self.text = text


class Picture(Box):
    """What keeps its form: so many cells across to so many down."""

    def __init__(self, name, across, down, *, style=None):
        refuse_no_name(name)
        if not is_from_one(across) or not is_from_one(down):
            raise NoNumber("across and down are whole numbers from 1 on")
        super().__init__(name, told_style(style))
        self.across = across
        self.down = down


class Row(Box):
    """Boxes one behind the other, which may turn into further lines."""

    def __init__(self, name, boxes, *, turn=False, gap=0, lane=0, pack="start", stands="stretch", style=None):
        refuse_no_name(name)
        refuse_no_boxes(boxes)
        if not isinstance(turn, bool):
            raise NoTruth("turn is True or False")
        refuse_no_counts([gap, lane])
        refuse_no_pack(pack)
        refuse_no_stands(stands)
        super().__init__(name, told_style(style))
        self.boxes = tuple(boxes)
        self.turn = turn
        self.gap = gap
        self.lane = lane
        self.pack = pack
        self.stands = stands


class Pile(Box):
    """Boxes one below the other."""

    def __init__(self, name, boxes, *, gap=0, pack="start", stands="stretch", style=None):
        refuse_no_name(name)
        refuse_no_boxes(boxes)
        refuse_no_counts([gap])
        refuse_no_pack(pack)
        refuse_no_stands(stands)
        super().__init__(name, told_style(style))
        self.boxes = tuple(boxes)
        self.gap = gap
        self.pack = pack
        self.stands = stands


class Grid(Box):
    """Boxes in spots of columns and rows."""

    def __init__(self, name, boxes, spots, *, columns, rows, gap=0, lane=0, stands="stretch", style=None):
        refuse_no_name(name)
        refuse_no_boxes(boxes)
        # Spots go behind the tracks: whether they lie within the grid hangs on these.
        refuse_no_tracks(columns)
        refuse_no_tracks(rows)
        refuse_no_spots(spots, len(boxes), len(columns), len(rows))
        refuse_no_counts([gap, lane])
        refuse_no_stands(stands)
        super().__init__(name, told_style(style))
        self.boxes = tuple(boxes)
        self.spots = tuple(spots)
        self.columns = tuple(columns)
        self.rows = tuple(rows)
        self.gap = gap
        self.lane = lane
        self.stands = stands


def refuse_no_boxes(things):
    if not isinstance(things, list) or not all([isinstance(thing, Box) for thing in things]):
        raise NoBox("this is no list of boxes")


def refuse_no_pack(thing):
    if not is_one_of(thing, PACKS):
        raise NoPack("this is no pack")


def refuse_no_stands(thing):
    if not is_one_of(thing, STANDS):
        raise NoStand("this is no stand")


def told_style(thing):
    """The style that is told, the plain one where none is."""
    if thing is None:
        return Style()
    if not isinstance(thing, Style):
        raise NoStyle("this is no style")
    return thing


def is_holder(box):
    """True just where the box is of a kind that has boxes in it, perhaps none."""
    return isinstance(box, (Row, Pile, Grid))


def boxes_in(box):
    """The boxes right in this one, none where it is no holder."""
    return box.boxes if is_holder(box) else ()


def spots_in(box):
    """The spots of the boxes right in this one, none where it is no grid."""
    return box.spots if isinstance(box, Grid) else ()


def same_record(one, other):
    """True just where two boxes are alike but for what is in the boxes in them, of which the names alone count."""
    return record_of(one) == record_of(other)


def record_of(box):
    """All that the box has, with their names in the place of the boxes in it."""
    if isinstance(box, Words):
        return "words", box.name, box.style, box.text
    if isinstance(box, Picture):
        return "picture", box.name, box.style, box.across, box.down
    names = [inner.name for inner in box.boxes]
    if isinstance(box, Row):
        return "row", box.name, box.style, names, box.turn, box.gap, box.lane, box.pack, box.stands
    if isinstance(box, Pile):
        return "pile", box.name, box.style, names, box.gap, box.pack, box.stands
    tracks = (box.columns, box.rows)
    return "grid", box.name, box.style, names, box.spots, tracks, box.gap, box.lane, box.stands


def with_boxes(holder, boxes, spots):
    """The holder with other boxes in it; spots are looked at in a grid alone."""
    return remade(holder, holder.style, boxes, spots)


def with_style(box, style):
    """The box with another style."""
    return remade(box, style, list(boxes_in(box)), list(spots_in(box)))


def remade(box, style, boxes, spots):
    """A box of the same kind and name with these; a kind that has no boxes or no spots doesn't look at them."""
    if isinstance(box, Words):
        return Words(box.name, box.text, style=style)
    if isinstance(box, Picture):
        return Picture(box.name, box.across, box.down, style=style)
    if isinstance(box, Row):
        return Row(box.name, boxes, turn=box.turn, gap=box.gap, lane=box.lane, pack=box.pack, stands=box.stands,
                   style=style)
    if isinstance(box, Pile):
        return Pile(box.name, boxes, gap=box.gap, pack=box.pack, stands=box.stands, style=style)
    return Grid(box.name, boxes, spots, columns=list(box.columns), rows=list(box.rows), gap=box.gap, lane=box.lane,
                stands=box.stands, style=style)
