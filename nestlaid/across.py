"""The rules of wish, least and wide, each with what it needs."""

from nestlaid.boxes import Grid, Picture, Row, Words
from nestlaid.grids import ceilings_across, columns_of, sizes_across
from nestlaid.lines import lines_in, number_in, number_of_line, shared_out
from nestlaid.scenes import gaps_between, holder_in, inside_across, keys_in, numbers_of, rims_across, stand_in
from nestlaid.sizes import held_across, size_needs, told_across
from nestlaid.styles import is_part
from nestlaid.wording import longest, wished


def wish_needs(scene, box):
    if box.style.wide is not None:
        return size_needs(scene, box, box.style.wide, "wide")
    if isinstance(box, Grid):
        return keys_in(box, "least") + keys_in(box, "wish")
    return keys_in(box, "wish")


def wish_by_rule(scene, box, known):
    if box.style.wide is not None:
        return held_across(box, told_across(scene, box, known))
    return held_across(box, rims_across(box) + inner_wish(box, known))


def inner_wish(box, known):
    """The wish of what is in the box."""
    if isinstance(box, Words):
        return wished(box.text)
    if isinstance(box, Picture):
        return box.across
    if isinstance(box, Grid):
        floors = sizes_across(box, "least", known)
        return with_gaps(ceilings_across(box, floors, known), box.gap)
    wishes = numbers_of(box.boxes, "wish", known)
    if isinstance(box, Row):
        return with_gaps(wishes, box.gap)
    return max(wishes, default=0)


def least_needs(scene, box):
    if box.style.least_wide is not None:
        return []
    if is_part(box.style.wide):
        return keys_in(box, "least")
    return [(box.name, "wish")] + keys_in(box, "least")


def least_by_rule(scene, box, known):
    if box.style.least_wide is not None:
        return box.style.least_wide
    least = rims_across(box) + inner_least(box, known)
    # A part's wish hangs on its holder's wide, which may in turn hang on this least.
    if is_part(box.style.wide):
        return least
    return min(known[(box.name, "wish")], least)


def inner_least(box, known):
    """The least of what is in the box."""
    if isinstance(box, Words):
        return longest(box.text)
    if isinstance(box, Picture):
        return box.across
    if isinstance(box, Grid):
        return with_gaps(sizes_across(box, "least", known), box.gap)
    leasts = numbers_of(box.boxes, "least", known)
    if isinstance(box, Row) and not box.turn:
        return with_gaps(leasts, box.gap)
    return max(leasts, default=0)


def with_gaps(sizes, gap):
    """What the sizes come to with the gap between two."""
    return sum(sizes) + gaps_between(len(sizes), gap)


def wide_needs(scene, box):
    holder = holder_in(scene, box)
    if holder is None:
        return []
    if not isinstance(holder, Row) and box.style.wide is not None:
        return [(box.name, "wish")]
    if isinstance(holder, (Row, Grid)):
        return [(holder.name, "wide")] + keys_in(holder, "least") + keys_in(holder, "wish")
    if stand_in(holder, box) == "stretch":
        return [(holder.name, "wide")]
    return [(holder.name, "wide"), (box.name, "least"), (box.name, "wish")]


def wide_by_rule(scene, box, known):
    holder = holder_in(scene, box)
    if holder is None:
        wide, high = scene.bounds
        return wide
    if isinstance(holder, Row):
        return wide_in_row(holder, box, known)
    if box.style.wide is not None:
        return known[(box.name, "wish")]
    if isinstance(holder, Grid):
        start, room = columns_of(holder, box, known)
    else:
        room = inside_across(holder, known)
    if stand_in(holder, box) == "stretch":
        return held_across(box, room)
    return max(known[(box.name, "least")], min(known[(box.name, "wish")], room))


def wide_in_row(row, box, known):
    """What the box gets of the room of its line."""
    lines = lines_in(row, known)
    line = lines[number_of_line(lines, box)]
    room = max(0, inside_across(row, known) - gaps_between(len(line), row.gap))
    wishes = numbers_of(line, "wish", known)
    leasts = numbers_of(line, "least", known)
    wides = shared_out(room, line, wishes, leasts, [inner.style.most_wide for inner in line])
    return wides[number_in(line, box)]
