"""A box's line in a tree's text, as it is written."""

from nestlaid.boxes import Picture, Pile, Row, Words
from nestlaid.checks import is_share
from nestlaid.styles import fields_of, is_part, is_tie


def show_line(box, spot):
    """The line of a box without its dots; the spot is None where it isn't in a grid."""
    words = words_of_kind(box)
    if spot is not None:
        words.append(f"spot={show_numbers(spot)}")
    line = " ".join(words + words_of_style(box.style))
    if not isinstance(box, Words):
        return line
    text = box.text.replace("\n", "|")
    return f"{line} : {text}"


def words_of_kind(box):
    """The kind, the name, and what boxes of this kind alone have."""
    if isinstance(box, Words):
        return ["words", box.name]
    if isinstance(box, Picture):
        return ["picture", box.name, f"{box.across}x{box.down}"]
    if isinstance(box, Row):
        return words_of_row(box)
    if isinstance(box, Pile):
        told = [("gap", box.gap, 0), ("pack", box.pack, "start"), ("stands", box.stands, "stretch")]
        return ["pile", box.name] + words_unless_default(told)
    return words_of_grid(box)


def words_of_row(row):
    told = [("gap", row.gap, 0), ("lane", row.lane, 0), ("pack", row.pack, "start"), ("stands", row.stands, "stretch")]
    return ["row", row.name] + (["turn"] if row.turn else []) + words_unless_default(told)


def words_of_grid(grid):
    told = [("gap", grid.gap, 0), ("lane", grid.lane, 0), ("stands", grid.stands, "stretch")]
    tracks = [f"columns={show_tracks(grid.columns)}", f"rows={show_tracks(grid.rows)}"]
    return ["grid", grid.name] + words_unless_default(told) + tracks


def words_unless_default(told):
    """A word for each of the tuples (key, thing, default) whose thing isn't its default."""
    return [f"{key}={thing}" for key, thing, default in told if thing != default]


def words_of_style(style):
    """A word for each field of the style that isn't its default."""
    return [f"{key}={show_field(key, thing)}" for key, thing, default in fields_of(style) if thing != default]


def show_field(key, thing):
    if key in ("wide", "high"):
        return show_size(thing)
    if key == "rims":
        return show_numbers(thing)
    return f"{thing}"


def show_size(size):
    if is_part(size):
        return f"{size[1]}p"
    if is_tie(size):
        sign, name, side, more = size
        return f"{name}.{side}{more:+d}"
    return f"{size}"


def show_numbers(numbers):
    return ",".join([str(number) for number in numbers])


def show_tracks(tracks):
    return ",".join([f"{track[1]}s" if is_share(track) else f"{track}" for track in tracks])
