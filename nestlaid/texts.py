"""Trees written as texts, a line for each box, and read again."""

from nestlaid.boxes import Grid, is_holder, with_boxes
from nestlaid.checks import is_spot, meet
from nestlaid.errors import NoText
from nestlaid.grids import spot_of
from nestlaid.reading import read_line, refuse_unless_written
from nestlaid.trees import itself_if_a_tree, looked_through
from nestlaid.wording import refuse_no_text
from nestlaid.writing import show_line


def show_tree(tree):
    """The tree's text: a line for each box, with as many dots as there are boxes in which it lies."""
    found = looked_through(tree)
    depths = {}
    lines = []
    for box, name in found.values():
        depths[box.name] = 0 if name is None else depths[name] + 1
        spot = None
        if name is not None and isinstance(found[name][0], Grid):
            spot = spot_of(found[name][0], box)
        lines.append("." * depths[box.name] + show_line(box, spot))
    return "\n".join(lines)


def read_tree(text):
    """The tree of such a text; its first line that isn't so written is refused by its number."""
    refuse_no_text(text)
    rows = []
    path = []
    for at, line in enumerate(text.split("\n")):
        try:
            row = read_line(line)
            path = path_behind(path, row)
        except NoText:
            raise NoText(f"the line {at} isn't so written", at) from None
        rows.append(row)
    return itself_if_a_tree(built(rows))


def path_behind(path, row):
    """The boxes within one another behind this line, each with the spots in it so far; refused where it may not be."""
    dots, box, spot = row
    if len(path) == 0:
        refuse_unless_written(dots == 0 and spot is None)
        return [(box, [])]
    refuse_unless_written(1 <= dots <= len(path))
    holder, spots = path[dots - 1]
    refuse_unless_written(is_holder(holder) and is_right_spot(holder, spots, spot))
    return path[:dots - 1] + [(holder, spots + [spot]), (box, [])]


def is_right_spot(holder, spots, spot):
    """True just where the spot may stand in the holder beside those ahead: in a grid one, else none."""
    if not isinstance(holder, Grid):
        return spot is None
    if not is_spot(spot, len(holder.columns), len(holder.rows)):
        return False
    return not any([meet(spot, other) for other in spots])


def built(rows):
    """The first box of the lines, tuples (dots, box, spot), with all boxes in their holders."""
    waiting = []
    # From the last line on, so that all that stands in a box is there when its own line comes.
    for dots, box, spot in reversed(rows):
        inner = []
        while len(waiting) > 0 and waiting[-1][0] > dots:
            inner.append(waiting.pop())
        if is_holder(box):
            box = with_boxes(box, [row[1] for row in inner], [row[2] for row in inner])
        waiting.append((dots, box, spot))
    return waiting[0][1]
