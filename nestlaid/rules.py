"""The nine numbers of each box: what each needs, which boxes it reads, and what it is by its rule."""

from nestlaid.across import least_by_rule, least_needs, wide_by_rule, wide_needs, wish_by_rule, wish_needs
from nestlaid.boxes import Grid, boxes_in
from nestlaid.checks import is_one_of
from nestlaid.down import base_by_rule, base_needs, flow_by_rule, flow_needs, rise_by_rule, rise_needs
from nestlaid.down import tall_by_rule, tall_needs
from nestlaid.errors import NoWord
from nestlaid.lying import left_by_rule, left_needs, top_by_rule, top_needs
from nestlaid.scenes import Scene, holder_in
from nestlaid.styles import is_part
from nestlaid.trees import WIDE, framed, looked_through, looked_up

WORDS = ("least", "wish", "wide", "flow", "rise", "tall", "base", "left", "top")
FRAME = ""


def needs(tree, name, word, *, wide=WIDE, high=None):
    """The list of the numbers, tuples (name, word), that this number needs."""
    return needs_in(scene_of_number(tree, name, word, wide, high), name, word)


def reads(tree, name, word):
    """The list of the names of the boxes that this number reads; the frame's is the text without signs."""
    return reads_in(scene_of_number(tree, name, word, WIDE, None), name, word)


def by_rule(tree, name, word, known, *, wide=WIDE, high=None):
    """The number as its rule tells it by known ones, a dict from tuples (name, word) to numbers."""
    return number_by_rule(scene_of_number(tree, name, word, wide, high), name, word, known)


def scene_of_number(tree, name, word, wide, high):
    """The tree in the frame; refused in the order in which these are told."""
    found = looked_through(tree)
    looked_up(found, name)
    refuse_no_word(word)
    return Scene(found, framed(wide=wide, high=high))


def refuse_no_word(thing):
    if not is_one_of(thing, WORDS):
        raise NoWord("this is no word of a number")


def needs_in(scene, name, word):
    """The numbers that this one needs in the scene."""
    box, holder = scene.found[name]
    if word == "least":
        return least_needs(scene, box)
    if word == "wish":
        return wish_needs(scene, box)
    if word == "wide":
        return wide_needs(scene, box)
    if word == "flow":
        return flow_needs(scene, box)
    if word == "rise":
        return rise_needs(scene, box)
    if word == "tall":
        return tall_needs(scene, box)
    if word == "base":
        return base_needs(scene, box)
    if word == "left":
        return left_needs(scene, box)
    return top_needs(scene, box)


def number_by_rule(scene, name, word, known):
    """The number in the scene by its rule."""
    box, holder = scene.found[name]
    if word == "least":
        return least_by_rule(scene, box, known)
    if word == "wish":
        return wish_by_rule(scene, box, known)
    if word == "wide":
        return wide_by_rule(scene, box, known)
    if word == "flow":
        return flow_by_rule(scene, box, known)
    if word == "rise":
        return rise_by_rule(scene, box, known)
    if word == "tall":
        return tall_by_rule(scene, box, known)
    if word == "base":
        return base_by_rule(scene, box, known)
    if word == "left":
        return left_by_rule(scene, box, known)
    return top_by_rule(scene, box, known)


def reads_in(scene, name, word):
    """The names of the boxes that a number reads in the scene."""
    box, holder = scene.found[name]
    if word == "flow":
        return [name] + [inner.name for inner in boxes_in(box)]
    if word in ("wide", "tall", "left", "top"):
        return reads_around(scene, box, word)
    is_part_of_holder = (word == "wish" and is_part(box.style.wide)) or (word == "rise" and is_part(box.style.high))
    return [name, holder] if is_part_of_holder else [name]


def reads_around(scene, box, word):
    """The names that a wide, tall, left or top reads."""
    holder = holder_in(scene, box)
    if holder is None:
        return [box.name, FRAME] if word in ("wide", "tall") else [box.name]
    if isinstance(holder, Grid):
        return [box.name, holder.name]
    return [holder.name] + [inner.name for inner in holder.boxes]
