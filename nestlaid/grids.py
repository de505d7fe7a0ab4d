"""Columns and rows of a grid by the numbers of its boxes."""

from nestlaid.lines import number_in
from nestlaid.scenes import gaps_between, inside_across, inside_down, numbers_of
from nestlaid.shares import dealt
from nestlaid.tracks import stretch_of, track_sizes, with_shares_levelled


def sizes_across(grid, word, known):
    """The sizes of the columns by the boxes' numbers of this word, least or wish."""
    numbers = numbers_of(grid.boxes, word, known)
    asks = [(spot[0], spot[2], number) for spot, number in zip(grid.spots, numbers)]
    return track_sizes(list(grid.columns), asks, grid.gap)


def sizes_down(grid, known):
    """The sizes of the rows by the boxes' rises."""
    rises = numbers_of(grid.boxes, "rise", known)
    asks = [(spot[1], spot[3], rise) for spot, rise in zip(grid.spots, rises)]
    return track_sizes(list(grid.rows), asks, grid.lane)


def ceilings_across(grid, floors, known):
    """The greater of each column's floor and of its size by the wishes."""
    return [max(floor, size) for floor, size in zip(floors, sizes_across(grid, "wish", known))]


def columns_in(grid, known):
    """The sizes that the columns have in the grid's inside."""
    floors = sizes_across(grid, "least", known)
    room = max(0, inside_across(grid, known) - gaps_between(len(floors), grid.gap))
    rest = room - sum(floors)
    if rest <= 0:
        return floors
    caps = [ceiling - floor for ceiling, floor in zip(ceilings_across(grid, floors, known), floors)]
    level, parts = dealt(rest, caps, [1 if column == "fit" else 0 for column in grid.columns])
    sizes = [floor + part for floor, part in zip(floors, parts)]
    return with_shares_levelled(grid.columns, sizes, room)


def rows_in(grid, known):
    """The sizes that the rows have in the grid's inside."""
    sizes = sizes_down(grid, known)
    room = inside_down(grid, known) - gaps_between(len(sizes), grid.lane)
    return with_shares_levelled(grid.rows, sizes, room)


def spot_of(grid, box):
    """The spot of a box right in the grid."""
    return grid.spots[number_in(grid.boxes, box)]


def columns_of(grid, box, known):
    """Where in the grid's inside the columns begin that the box has, and what they have together."""
    column, row, columns, rows = spot_of(grid, box)
    return stretch_of(columns_in(grid, known), column, columns, grid.gap)


def rows_of(grid, box, known):
    """Where in the grid's inside the rows begin that the box has, and what they have together."""
    column, row, columns, rows = spot_of(grid, box)
    return stretch_of(rows_in(grid, known), row, rows, grid.lane)
