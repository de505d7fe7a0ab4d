"""Told sizes, and sizes held between a box's leasts and mosts."""

from nestlaid.scenes import holder_in, inside_across, inside_down
from nestlaid.shares import held
from nestlaid.styles import is_part, is_tie


def held_across(box, number):
    """The number held between the box's least_wide and most_wide."""
    return held(number, box.style.least_wide or 0, box.style.most_wide)


def held_down(box, number):
    """The number held between the box's least_high and most_high."""
    return held(number, box.style.least_high or 0, box.style.most_high)


def size_needs(scene, box, size, word):
    """What a told size needs; the word is that of the holder's number of which it may be a part."""
    if is_part(size):
        return [(holder_in(scene, box).name, word)]
    if is_tie(size):
        sign, name, side, more = size
        return [(name, side)]
    return []


def told_across(scene, box, known):
    """The cells of the box's told wide."""
    if is_part(box.style.wide):
        return part_of(inside_across(holder_in(scene, box), known), box.style.wide)
    return told_cells(box.style.wide, known)


def told_down(scene, box, known):
    """The cells of the box's told high."""
    if is_part(box.style.high):
        return part_of(inside_down(holder_in(scene, box), known), box.style.high)
    return told_cells(box.style.high, known)


def part_of(inside, size):
    """So many thousandths of the inside."""
    return inside * size[1] // 1000


def told_cells(size, known):
    """The cells of a told size that is a tie, or so many cells."""
    if is_tie(size):
        sign, name, side, more = size
        return max(0, known[(name, side)] + more)
    return size
