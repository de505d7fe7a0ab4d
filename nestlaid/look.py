"""What is seen of a tree in a frame: its places, the box at a cell, the picture drawn, and what sticks out."""

from nestlaid.boxes import Grid, Picture, Words
from nestlaid.checks import is_from_one
from nestlaid.errors import NoNumber, NoText
from nestlaid.grids import columns_of, rows_of
from nestlaid.scenes import Scene, holder_in, inside_across, inside_down, left_end, place_of, places_in, scene_of
from nestlaid.scenes import upper_end
from nestlaid.settle import settled_numbers
from nestlaid.shares import is_whole
from nestlaid.trees import WIDE, framed, looked_through
from nestlaid.wording import wrapped


def places(tree, *, wide=WIDE, high=None):
    """The list of the boxes' places, tuples (name, left, top, wide, tall), in the tree's order."""
    scene = scene_of(tree, wide, high)
    return places_in(scene, settled_numbers(scene))


def box_at(tree, x, y, *, wide=WIDE, high=None):
    """The name of the last box in order that has the cell (x, y), None where none has it."""
    found = looked_through(tree)
    if not is_whole(x) or not is_whole(y):
        raise NoNumber("a cell is told by two whole numbers")
    scene = Scene(found, framed(wide=wide, high=high))
    numbers = settled_numbers(scene)
    name = None
    for other in scene.found:
        left, top, across, down = place_of(other, numbers)
        if left <= x < left + across and top <= y < top + down:
            name = other
    return name


def drawn(tree, *, wide=WIDE, high=None, fill="#"):
    """The picture drawn, a list of lines; pictures in it are filled with one sign."""
    scene = scene_of(tree, wide, high)
    if not isinstance(fill, str) or len(fill) != 1 or fill == "\n":
        raise NoText("what fills is a text of one sign, no line feed")
    numbers = settled_numbers(scene)
    lines = [" " * numbers[(tree.name, "wide")]] * numbers[(tree.name, "tall")]
    for box, holder in scene.found.values():
        if isinstance(box, Words):
            draw_words(lines, box, numbers)
        elif isinstance(box, Picture):
            draw_picture(lines, box, numbers, fill)
    return lines


def draw_words(lines, box, numbers):
    for at, told in enumerate(lines_of_words(box, numbers)):
        draw_line(lines, left_end(box, numbers), upper_end(box, numbers) + at, told)


def draw_picture(lines, box, numbers, fill):
    left = left_end(box, numbers)
    top = upper_end(box, numbers)
    first = max(0, top)
    last = min(len(lines), top + inside_down(box, numbers))
    for at in range(first, last):
        # Only what is seen is made into a text: a box may be far wider than the lines.
        start = max(0, left)
        end = min(len(lines[at]), left + inside_across(box, numbers))
        draw_line(lines, start, at, fill * max(0, end - start))


def draw_line(lines, left, at, told):
    """Draws the signs of a text over those in the line with the number at, as far as this has such cells."""
    if at < 0 or at >= len(lines):
        return
    start = max(0, left)
    end = min(len(lines[at]), left + len(told))
    if start < end:
        lines[at] = lines[at][:start] + told[start - left:end - left] + lines[at][end:]


def lines_of_words(box, numbers):
    """The lines into which the words are broken."""
    return wrapped(box.text, inside_across(box, numbers))


def sticks_out(tree, *, wide=WIDE, high=None):
    """The list of what sticks out, tuples (name, way), way one of "across", "down", "words"."""
    scene = scene_of(tree, wide, high)
    numbers = settled_numbers(scene)
    told = []
    for box, holder in scene.found.values():
        if sticks_out_across(scene, box, numbers):
            told.append((box.name, "across"))
        if sticks_out_down(scene, box, numbers):
            told.append((box.name, "down"))
        if has_words_outside(box, numbers):
            told.append((box.name, "words"))
    return told


def sticks_out_across(scene, box, numbers):
    holder = holder_in(scene, box)
    if holder is None:
        return False
    start = left_end(holder, numbers)
    rooms = [(0, inside_across(holder, numbers))]
    if isinstance(holder, Grid):
        rooms.append(columns_of(holder, box, numbers))
    left, top, across, down = place_of(box.name, numbers)
    return is_outside_of_one(left - start, across, rooms)


def sticks_out_down(scene, box, numbers):
    holder = holder_in(scene, box)
    if holder is None:
        return False
    start = upper_end(holder, numbers)
    rooms = [(0, inside_down(holder, numbers))]
    if isinstance(holder, Grid):
        rooms.append(rows_of(holder, box, numbers))
    left, top, across, down = place_of(box.name, numbers)
    return is_outside_of_one(top - start, down, rooms)


def is_outside_of_one(start, size, rooms):
    """True just where one of the rooms, tuples of a start and a size, doesn't have all of this."""
    return any([start < first or start + size > first + room for first, room in rooms])


def has_words_outside(box, numbers):
    """True just where the box is words of which a line is too long, or the lines are too many, for its inside."""
    if not isinstance(box, Words):
        return False
    told = lines_of_words(box, numbers)
    return len(told) > inside_down(box, numbers) or max([len(line) for line in told]) > inside_across(box, numbers)


def snapped(some, *, scale=(1, 1)):
    """The places, each of their ends snapped to the nearest of other cells, scale (top, bottom) to one of these."""
    if not isinstance(scale, tuple) or len(scale) != 2 or not all([is_from_one(part) for part in scale]):
        raise NoNumber("a scale is a tuple of two whole numbers from 1 on")
    return [snapped_place(place, scale) for place in some]


def snapped_place(place, scale):
    name, left, top, across, down = place
    new_left = nearest(left, scale)
    new_top = nearest(top, scale)
    return name, new_left, new_top, nearest(left + across, scale) - new_left, nearest(top + down, scale) - new_top


def nearest(end, scale):
    """The whole number nearest to the end times the scale, the greater one of two as near."""
    above, below = scale
    return (2 * end * above + below) // (2 * below)
