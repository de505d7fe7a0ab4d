"""Trees for tests: as if by chance, yet the same ones in each run, and trees at the document's limits."""

from helper import Numbers
from nestlaid.boxes import Grid, Picture, Pile, Row, Words
from nestlaid.styles import Style

LETTERS = "abcdefghijklmnopqrstuvwxyz"
STANDS = ("start", "end", "middle", "stretch", "base")
PACKS = ("start", "end", "middle", "between")
HOLDERS = (Row, Pile, Grid)
TEXTS = (
    "", " ", "a", "the cat", "the cat sat on the mat", "a  b\n\nccc dd", "one\ntwo three", "  in and out ",
    "longestword and a few", "x y z x y z x y z", "\n",
)
WORDS = ("least", "wish", "wide", "flow", "rise", "tall", "base", "left", "top")


def names(many):
    """So many names, none of which is a letter alone or in the order of the alphabet."""
    return [first + second for second in "zab" for first in LETTERS[::-1]][:many]


def some_size(numbers, all_names, first, odds):
    """A told size: mostly none; a part never of the first box."""
    pick = numbers.below(100)
    if pick >= odds:
        return None
    kind = numbers.one_of(("cells", "cells", "part", "tie"))
    if kind == "cells" or (kind == "part" and first):
        return numbers.below(25)
    if kind == "part":
        return ("part", numbers.one_of((0, 1, 250, 333, 500, 999, 1000, 1500)))
    return ("as", numbers.one_of(all_names), numbers.one_of(("wide", "tall")), numbers.below(9) - 4)


def some_style(numbers, all_names, first, odds=30):
    def bound():
        return numbers.below(20) if numbers.below(100) < odds // 2 else None

    return Style(
        wide=some_size(numbers, all_names, first, odds), high=some_size(numbers, all_names, first, odds),
        least_wide=bound(), least_high=bound(), most_wide=bound(), most_high=bound(),
        grow=numbers.one_of((0, 0, 1, 2, 5)), shrink=numbers.one_of((0, 1, 1, 3)),
        rims=tuple([numbers.one_of((0, 0, 0, 1, 2, 7)) for _ in range(4)]),
        stand=numbers.one_of((None, None, *STANDS)),
    )


def some_track(numbers):
    return numbers.one_of(("fit", "fit", numbers.below(8), ("share", 1 + numbers.below(4))))


def meets(one, other):
    across = set(range(one[0], one[0] + one[2])) & set(range(other[0], other[0] + other[2]))
    down = set(range(one[1], one[1] + one[3])) & set(range(other[1], other[1] + other[3]))
    return bool(across and down)


def some_grid(numbers, name, boxes, style):
    columns = [some_track(numbers) for _ in range(1 + numbers.below(4))]
    rows = [some_track(numbers) for _ in range(1 + numbers.below(4))]
    spots = []
    for _ in boxes:
        for _ in range(12):
            column, row = numbers.below(len(columns)), numbers.below(len(rows))
            spot = (column, row, 1 + numbers.below(len(columns) - column), 1 + numbers.below(len(rows) - row))
            if not any(meets(spot, other) for other in spots):
                break
        else:
            rows.append(some_track(numbers))
            spot = (numbers.below(len(columns)), len(rows) - 1, 1, 1)
        spots.append(spot)
    return Grid(
        name, boxes, spots, columns=columns, rows=rows, gap=numbers.below(3), lane=numbers.below(3),
        stands=numbers.one_of(STANDS), style=style,
    )


def some_box(numbers, kind, name, boxes, style):
    if kind is Words:
        return Words(name, numbers.one_of(TEXTS), style=style)
    if kind is Picture:
        return Picture(name, 1 + numbers.below(9), 1 + numbers.below(9), style=style)
    if kind is Grid:
        return some_grid(numbers, name, boxes, style)
    gap, pack, stands = numbers.below(3), numbers.one_of(PACKS), numbers.one_of(STANDS)
    if kind is Pile:
        return Pile(name, boxes, gap=gap, pack=pack, stands=stands, style=style)
    turn, lane = numbers.one_of((True, False)), numbers.below(3)
    return Row(name, boxes, turn=turn, gap=gap, lane=lane, pack=pack, stands=stands, style=style)


def some_tree(numbers, many, odds=30, kinds=(Words, Picture, Row, Pile, Grid)):
    """A tree of so many boxes; in a hundred sizes so many (odds) are told."""
    all_names = names(many)
    picked = [numbers.one_of(HOLDERS if many > 1 else kinds)]
    parents = [None]
    for at in range(1, many):
        parents.append(numbers.one_of([k for k in range(at) if picked[k] in HOLDERS]))
        picked.append(numbers.one_of(kinds))
    made = {}
    for at in reversed(range(many)):
        boxes = [made[k] for k in range(at + 1, many) if parents[k] == at]
        style = some_style(numbers, all_names, at == 0, odds)
        made[at] = some_box(numbers, picked[at], all_names[at], boxes, style)
    return made[0]


def some_frame(numbers):
    return {"wide": numbers.one_of((0, 3, 10, 20, 40, 80, 200)), "high": numbers.one_of((None, None, 0, 5, 30))}


def some_scenes(seed, many, most_boxes=14, odds=30):
    """So many times: the numbers, a tree, and a frame as it is handed in by names."""
    numbers = Numbers(seed)
    for _ in range(many):
        tree = some_tree(numbers, 1 + numbers.below(most_boxes), odds)
        yield numbers, tree, some_frame(numbers)


def all_in(tree):
    """Tuples of each box and its holder, None of the first one, in the tree's order."""
    rows = []

    def walk(box, holder):
        rows.append((box, holder))
        for inner in getattr(box, "boxes", ()):
            walk(inner, box)

    walk(tree, None)
    return rows


def deep_tree(many, kinds=("row", "pile", "turn", "grid")):
    """So many boxes within one another, of these kinds in turn, the innermost words."""
    box = Words("last", "the cat sat on the mat and the dog sat too")
    for at, name in reversed(list(enumerate(names(many - 1)))):
        kind = kinds[at % len(kinds)]
        style = Style(rims=(1, 1, at % 2, 0))
        if kind == "grid":
            box = Grid(name, [box], [(0, 1, 2, 1)], columns=["fit", ("share", 1)], rows=[1, "fit"], gap=1, style=style)
        elif kind == "pile":
            box = Pile(name, [box], gap=1, style=style)
        else:
            box = Row(name, [box], turn=kind == "turn", gap=1, stands="base" if at % 3 else "stretch", style=style)
    return box


def wide_tree(many, kind):
    """A holder of this kind with so many boxes right in it."""
    boxes = []
    for at, name in enumerate(names(many)):
        style = Style(grow=at % 3, shrink=1 + at % 2, least_high=at % 2 or None)
        box = Words(name, "the cat sat " * (1 + at % 4), style=style)
        boxes.append(Picture(name, 4, 3, style=style) if at % 5 == 4 else box)
    if kind is Grid:
        columns = [("fit", 7, ("share", 2), "fit", ("share", 1))[at % 5] for at in range(10)]
        rows = [("fit", ("share", 1), 2)[at % 3] for at in range(max(10, -(-many // 5)))]
        spots = [(at % 5 * 2, at // 5, 1 + at % 2, 1) for at in range(many)]
        return Grid("top", boxes, spots, columns=columns, rows=rows, gap=1, lane=1, stands="middle")
    if kind is Pile:
        return Pile("top", boxes, gap=1, pack="between")
    return Row("top", boxes, turn=kind == "turn", gap=1, lane=1, pack="middle", stands="base")


def full_tree(many, numbers, odds=0, most_within=10):
    """A tree of so many boxes, of all kinds, none more than so many within one another."""
    while True:
        tree = some_tree(numbers, many, odds)
        depths = {}
        for box, holder in all_in(tree):
            depths[box.name] = 1 + (depths[holder.name] if holder else 0)
        if max(depths.values()) <= most_within:
            return tree
