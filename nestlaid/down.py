"""The rules of flow, rise, tall and base, each with what it needs."""

from nestlaid.boxes import Grid, Picture, Pile, Row, Words, boxes_in
from nestlaid.grids import rows_of, sizes_down
from nestlaid.lines import by_base, height_of, heights_in, lines_in, number_in, number_of_line, shared_out
from nestlaid.scenes import gaps_between, holder_in, inside_across, inside_down, keys_in, numbers_of, rims_down
from nestlaid.scenes import stand_in
from nestlaid.sizes import held_down, size_needs, told_down
from nestlaid.wording import wrapped


def base_keys_in(row):
    """The base of each box right in the row that stands by base."""
    return [(box.name, "base") for box in by_base(row, row.boxes)]


def turned_needs(row):
    """What is needed to know the lines of a row that turns, and how high they are."""
    return [(row.name, "wide")] + keys_in(row, "wish") + keys_in(row, "rise") + base_keys_in(row)


def flow_needs(scene, box):
    if isinstance(box, (Words, Picture)):
        return [(box.name, "wide")]
    if isinstance(box, Row):
        return turned_needs(box) if box.turn else keys_in(box, "rise") + base_keys_in(box)
    return keys_in(box, "rise")


def flow_by_rule(scene, box, known):
    return rims_down(box) + inner_flow(box, known)


def inner_flow(box, known):
    """How high what is in the box would be."""
    if isinstance(box, Words):
        return len(wrapped(box.text, inside_across(box, known)))
    if isinstance(box, Picture):
        return inside_across(box, known) * box.down // box.across
    if isinstance(box, Row):
        sizes = heights_in(box, known)
        return sum(sizes) + gaps_between(len(sizes), box.lane)
    if isinstance(box, Pile):
        sizes = numbers_of(box.boxes, "rise", known)
        return sum(sizes) + gaps_between(len(sizes), box.gap)
    sizes = sizes_down(box, known)
    return sum(sizes) + gaps_between(len(sizes), box.lane)


def rise_needs(scene, box):
    if box.style.high is None:
        return [(box.name, "flow")]
    return size_needs(scene, box, box.style.high, "tall")


def rise_by_rule(scene, box, known):
    if box.style.high is None:
        return held_down(box, known[(box.name, "flow")])
    return held_down(box, told_down(scene, box, known))


def is_stretched_down(holder, box):
    """True just where a box in a row or a grid is as tall as it is let be."""
    return box.style.high is None and stand_in(holder, box) == "stretch"


def tall_needs(scene, box):
    holder = holder_in(scene, box)
    if holder is None:
        wide, high = scene.bounds
        return [(box.name, "rise")] if high is None else []
    if isinstance(holder, Pile):
        return [(holder.name, "tall")] + keys_in(holder, "rise")
    if not is_stretched_down(holder, box):
        return [(box.name, "rise")]
    if isinstance(holder, Grid):
        return [(holder.name, "tall")] + keys_in(holder, "rise")
    return turned_needs(holder) if holder.turn else [(holder.name, "tall")]


def tall_by_rule(scene, box, known):
    holder = holder_in(scene, box)
    if holder is None:
        wide, high = scene.bounds
        return known[(box.name, "rise")] if high is None else high
    if isinstance(holder, Pile):
        return tall_in_pile(holder, box, known)
    if not is_stretched_down(holder, box):
        return known[(box.name, "rise")]
    return held_down(box, room_down(holder, box, known))


def room_down(holder, box, known):
    """How high a box may be in a row or a grid: its line, or the rows that it has."""
    if isinstance(holder, Grid):
        start, room = rows_of(holder, box, known)
        return room
    if not holder.turn:
        return inside_down(holder, known)
    lines = lines_in(holder, known)
    return height_of(holder, lines[number_of_line(lines, box)], known)


def tall_in_pile(pile, box, known):
    """What the box gets of the pile's room."""
    room = max(0, inside_down(pile, known) - gaps_between(len(pile.boxes), pile.gap))
    rises = numbers_of(pile.boxes, "rise", known)
    told = [inner.style.least_high for inner in pile.boxes]
    leasts = [rise if least is None else least for least, rise in zip(told, rises)]
    talls = shared_out(room, pile.boxes, rises, leasts, [inner.style.most_high for inner in pile.boxes])
    return talls[number_in(pile.boxes, box)]


def base_needs(scene, box):
    if isinstance(box, Words):
        return []
    if len(boxes_in(box)) > 0:
        return [(box.boxes[0].name, "base")]
    return [(box.name, "rise")]


def base_by_rule(scene, box, known):
    left, right, upper, lower = box.style.rims
    if isinstance(box, Words):
        return upper + 1
    if len(boxes_in(box)) > 0:
        return upper + known[(box.boxes[0].name, "base")]
    return known[(box.name, "rise")]
