"""Lines of a row, and what rows and piles do alike: rooms dealt to boxes, and boxes packed behind one another."""

from nestlaid.scenes import gaps_between, inside_across, numbers_of, stand_in
from nestlaid.shares import dealt


def lines_in(row, known):
    """The lines of the row, each a list of its boxes."""
    if not row.turn:
        return [list(row.boxes)]
    room = inside_across(row, known)
    lines = []
    wide = 0
    for box in row.boxes:
        wish = known[(box.name, "wish")]
        if len(lines) > 0 and wide + row.gap + wish <= room:
            lines[-1].append(box)
            wide += row.gap + wish
        else:
            lines.append([box])
            wide = wish
    return lines


def number_of_line(lines, box):
    """The number, from 0 on, of the line in which the box is."""
    return [at for at, line in enumerate(lines) if number_in(line, box) is not None][0]


def number_in(boxes, box):
    """The number, from 0 on, of the box among these, None where it is none of them."""
    for at, other in enumerate(boxes):
        if other.name == box.name:
            return at
    return None


def by_base(holder, boxes):
    """Those of the boxes that stand by base."""
    return [box for box in boxes if stand_in(holder, box) == "base"]


def bar_of(row, line, known):
    """How far below its upper end a line lines up its boxes that stand by base."""
    return max(numbers_of(by_base(row, line), "base", known), default=0)


def height_of(row, line, known):
    """The height of a line."""
    bar = bar_of(row, line, known)
    highest = 0
    for box in line:
        rise = known[(box.name, "rise")]
        if stand_in(row, box) == "base":
            rise = bar + rise - known[(box.name, "base")]
        highest = max(highest, rise)
    return highest


def heights_in(row, known):
    """The heights of the row's lines."""
    return [height_of(row, line, known) for line in lines_in(row, known)]


def shared_out(room, boxes, wishes, leasts, mosts):
    """What each of the boxes gets of the room: grown from its wish, or shrunk to no less than its least."""
    rest = room - sum(wishes)
    if rest >= 0:
        caps = [None if most is None else max(0, most - wish) for most, wish in zip(mosts, wishes)]
        level, parts = dealt(rest, caps, [box.style.grow for box in boxes])
        return [wish + part for wish, part in zip(wishes, parts)]
    caps = [max(0, wish - least) for wish, least in zip(wishes, leasts)]
    level, parts = dealt(-rest, caps, [box.style.shrink for box in boxes])
    return [wish - part for wish, part in zip(wishes, parts)]


def packed(pack, room, sizes, gap, at):
    """How far behind the room's start the one with the number at of these sizes lies."""
    more = room - sum(sizes) - gaps_between(len(sizes), gap)
    start = sum(sizes[:at]) + gap * at
    if pack == "end":
        return start + more
    if pack == "middle":
        return start + more // 2
    if pack == "between" and more > 0 and len(sizes) > 1:
        return start + at * more // (len(sizes) - 1)
    return start


def stood(stand, room, size):
    """How far behind the room's start something of this size stands; base stands as start."""
    if stand == "end":
        return room - size
    if stand == "middle":
        return (room - size) // 2
    return 0
