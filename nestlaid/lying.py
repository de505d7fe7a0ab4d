"""The rules of left and top, each with what it needs."""

from nestlaid.boxes import Grid, Row
from nestlaid.down import base_keys_in, turned_needs
from nestlaid.grids import columns_of, rows_of
from nestlaid.lines import bar_of, heights_in, lines_in, number_in, number_of_line, packed, stood
from nestlaid.scenes import holder_in, inside_across, inside_down, keys_in, left_end, numbers_of, stand_in, upper_end


def left_needs(scene, box):
    holder = holder_in(scene, box)
    if holder is None:
        return []
    around = [(holder.name, "left"), (holder.name, "wide")]
    if isinstance(holder, Row):
        return around + keys_in(holder, "wide") + (keys_in(holder, "wish") if holder.turn else [])
    if isinstance(holder, Grid):
        around = around + keys_in(holder, "least") + keys_in(holder, "wish")
    return around + [(box.name, "wide")]


def left_by_rule(scene, box, known):
    holder = holder_in(scene, box)
    if holder is None:
        return 0
    return left_end(holder, known) + left_within(holder, box, known)


def left_within(holder, box, known):
    """How far the box lies from the left end of its holder's inside."""
    if isinstance(holder, Row):
        lines = lines_in(holder, known)
        line = lines[number_of_line(lines, box)]
        wides = numbers_of(line, "wide", known)
        return packed(holder.pack, inside_across(holder, known), wides, holder.gap, number_in(line, box))
    start, room = 0, inside_across(holder, known)
    if isinstance(holder, Grid):
        start, room = columns_of(holder, box, known)
    return start + stood(stand_in(holder, box), room, known[(box.name, "wide")])


def top_needs(scene, box):
    holder = holder_in(scene, box)
    if holder is None:
        return []
    around = [(holder.name, "top")]
    if isinstance(holder, Row):
        lines = turned_needs(holder) if holder.turn else [(holder.name, "tall")] + base_keys_in(holder)
        return around + [(box.name, "tall")] + lines
    around.append((holder.name, "tall"))
    if isinstance(holder, Grid):
        return around + keys_in(holder, "rise") + [(box.name, "tall")]
    return around + keys_in(holder, "tall")


def top_by_rule(scene, box, known):
    holder = holder_in(scene, box)
    if holder is None:
        return 0
    return upper_end(holder, known) + top_within(holder, box, known)


def top_within(holder, box, known):
    """How far the box lies from the upper end of its holder's inside."""
    if isinstance(holder, Row):
        return top_in_row(holder, box, known)
    if isinstance(holder, Grid):
        start, room = rows_of(holder, box, known)
        return start + stood(stand_in(holder, box), room, known[(box.name, "tall")])
    talls = numbers_of(holder.boxes, "tall", known)
    return packed(holder.pack, inside_down(holder, known), talls, holder.gap, number_in(holder.boxes, box))


def top_in_row(row, box, known):
    """How far the box lies from the upper end of the row's inside: where its line begins, and where it is in that."""
    lines = lines_in(row, known)
    at = number_of_line(lines, box)
    start = 0
    if row.turn:
        heights = heights_in(row, known)
        start = sum(heights[:at]) + row.lane * at
        height = heights[at]
    else:
        height = inside_down(row, known)
    if stand_in(row, box) == "base":
        return start + bar_of(row, lines[at], known) - known[(box.name, "base")]
    return start + stood(stand_in(row, box), height, known[(box.name, "tall")])
