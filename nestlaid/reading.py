"""Lines, words and numbers as they are written, read; what isn't just so written is refused with NoText."""

from nestlaid.boxes import PACKS, Grid, Picture, Pile, Row, Words
from nestlaid.checks import is_name
from nestlaid.errors import NoText
from nestlaid.styles import NO_RIMS, SIDES, STANDS, Style

FIGURES = "0123456789"
MOST_FIGURES = 12


class Parts:
    """The words of a line that aren't read yet, in order."""

    def __init__(self, words):
        self.words = words
        self.at = 0

    def next_word(self):
        """The next word, which is read by this; the text without signs where there is none."""
        self.at += 1
        return self.words[self.at - 1] if self.at <= len(self.words) else ""

    def told(self, key):
        """What the next word tells of the key, None where it tells something else or there is none."""
        start = f"{key}="
        if self.at < len(self.words) and self.words[self.at].startswith(start):
            return self.next_word()[len(start):]
        return None

    def has(self, word):
        """True just where the next word is this one, which is read by this."""
        if self.at < len(self.words) and self.words[self.at] == word:
            self.at += 1
            return True
        return False

    def refuse_rest(self):
        refuse_unless_written(self.at == len(self.words))


def refuse_unless_written(right):
    if not right:
        raise NoText("this isn't so written")


def read_line(line):
    """The dots of a line, its box, which has none in it, and its spot, None where it has none."""
    bare = line.lstrip(".")
    kind, blank, rest = bare.partition(" ")
    text = ""
    if kind == "words":
        rest, colon, text = rest.partition(" : ")
        refuse_unless_written(colon != "")
    parts = Parts(rest.split(" "))
    name = parts.next_word()
    refuse_unless_written(is_name(name))
    box, spot = read_box(kind, name, parts, text.replace("|", "\n"))
    parts.refuse_rest()
    return len(line) - len(bare), box, spot


def read_box(kind, name, parts, text):
    """The box of this kind and its spot."""
    if kind == "words":
        spot = read_spot(parts)
        return Words(name, text, style=read_style(parts)), spot
    if kind == "picture":
        return read_picture(name, parts)
    if kind == "row":
        return read_row(name, parts)
    if kind == "pile":
        return read_pile(name, parts)
    refuse_unless_written(kind == "grid")
    return read_grid(name, parts)


def read_picture(name, parts):
    across, sign, down = parts.next_word().partition("x")
    across = read_from_one(across)
    down = read_from_one(down)
    spot = read_spot(parts)
    return Picture(name, across, down, style=read_style(parts)), spot


def read_row(name, parts):
    turn = parts.has("turn")
    gap = read_field(parts, "gap", read_count, 0)
    lane = read_field(parts, "lane", read_count, 0)
    pack = read_field(parts, "pack", read_pack, "start")
    stands = read_field(parts, "stands", read_stand, "stretch")
    spot = read_spot(parts)
    style = read_style(parts)
    return Row(name, [], turn=turn, gap=gap, lane=lane, pack=pack, stands=stands, style=style), spot


def read_pile(name, parts):
    gap = read_field(parts, "gap", read_count, 0)
    pack = read_field(parts, "pack", read_pack, "start")
    stands = read_field(parts, "stands", read_stand, "stretch")
    spot = read_spot(parts)
    return Pile(name, [], gap=gap, pack=pack, stands=stands, style=read_style(parts)), spot


def read_grid(name, parts):
    gap = read_field(parts, "gap", read_count, 0)
    lane = read_field(parts, "lane", read_count, 0)
    stands = read_field(parts, "stands", read_stand, "stretch")
    columns = read_field(parts, "columns", read_tracks, None)
    rows = read_field(parts, "rows", read_tracks, None)
    refuse_unless_written(columns is not None and rows is not None)
    spot = read_spot(parts)
    style = read_style(parts)
    return Grid(name, [], [], columns=columns, rows=rows, gap=gap, lane=lane, stands=stands, style=style), spot


def read_spot(parts):
    """A spot of any four numbers, None where the next word tells none."""
    return read_field(parts, "spot", read_four, None)


def read_style_alone(words):
    """The style of words that tell nothing else."""
    parts = Parts(words)
    style = read_style(parts)
    parts.refuse_rest()
    return style


def read_style(parts):
    wide = read_field(parts, "wide", read_size, None)
    high = read_field(parts, "high", read_size, None)
    least_wide = read_field(parts, "least_wide", read_count, None)
    least_high = read_field(parts, "least_high", read_count, None)
    most_wide = read_field(parts, "most_wide", read_count, None)
    most_high = read_field(parts, "most_high", read_count, None)
    grow = read_field(parts, "grow", read_count, 0)
    shrink = read_field(parts, "shrink", read_count, 1)
    rims = read_field(parts, "rims", read_four, NO_RIMS)
    stand = read_field(parts, "stand", read_stand, None)
    return Style(wide=wide, high=high, least_wide=least_wide, least_high=least_high, most_wide=most_wide,
                 most_high=most_high, grow=grow, shrink=shrink, rims=rims, stand=stand)


def read_field(parts, key, reader, default):
    """What the next word tells of the key, the default where it tells something else: a default is never written."""
    written = parts.told(key)
    if written is None:
        return default
    thing = reader(written)
    refuse_unless_written(thing != default)
    return thing


def read_count(text):
    """A number from 0 on, of one to twelve figures, without a nought ahead."""
    refuse_unless_written(1 <= len(text) <= MOST_FIGURES and all([sign in FIGURES for sign in text]))
    refuse_unless_written(text == "0" or text[0] != "0")
    return int(text)


def read_from_one(text):
    number = read_count(text)
    refuse_unless_written(number > 0)
    return number


def read_whole(text):
    """A number, also with - ahead where it is below 0."""
    if text.startswith("-"):
        return -read_from_one(text[1:])
    return read_count(text)


def read_four(text):
    """A tuple of four numbers with a comma between two."""
    numbers = [read_count(part) for part in text.split(",")]
    refuse_unless_written(len(numbers) == 4)
    return tuple(numbers)


def read_size(text):
    """A told size: so many cells, a part or a tie."""
    if "." in text:
        return read_tie(text)
    if text.endswith("p"):
        return "part", read_count(text[:-1])
    return read_count(text)


def read_tie(text):
    name, dot, rest = text.partition(".")
    side = rest[:4]
    sign = rest[4:5]
    refuse_unless_written(is_name(name) and side in SIDES and sign in ("+", "-"))
    more = read_count(rest[5:]) if sign == "+" else read_whole(rest[4:])
    return "as", name, side, more


def read_tracks(text):
    return [read_track(part) for part in text.split(",")]


def read_track(text):
    if text == "fit":
        return "fit"
    if text.endswith("s"):
        return "share", read_from_one(text[:-1])
    return read_count(text)


def read_pack(text):
    refuse_unless_written(text in PACKS)
    return text


def read_stand(text):
    refuse_unless_written(text in STANDS)
    return text
