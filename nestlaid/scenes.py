"""A tree in a frame, as the rules look at it, and what they all ask of boxes and of known numbers."""

from nestlaid.boxes import boxes_in
from nestlaid.trees import framed, looked_through


class Scene:
    """The boxes of a tree by their names, and its frame; once made it never changes."""

    def __init__(self, found, bounds):
        self.found = found
        self.bounds = bounds


def scene_of(tree, wide, high):
    """The scene of a tree in a frame; what is no tree is refused ahead of what is no frame."""
    found = looked_through(tree)
    return Scene(found, framed(wide=wide, high=high))


def holder_in(scene, box):
    """The box right in which this one is, None of the first one."""
    inner, holder = scene.found[box.name]
    return None if holder is None else scene.found[holder][0]


def stand_in(holder, box):
    """How the box stands in its holder."""
    return holder.stands if box.style.stand is None else box.style.stand


def rims_across(box):
    left, right, upper, lower = box.style.rims
    return left + right


def rims_down(box):
    left, right, upper, lower = box.style.rims
    return upper + lower


def inside_across(box, known):
    return max(0, known[(box.name, "wide")] - rims_across(box))


def inside_down(box, known):
    return max(0, known[(box.name, "tall")] - rims_down(box))


def left_end(box, known):
    """Where the box's inside begins across."""
    return known[(box.name, "left")] + box.style.rims[0]


def upper_end(box, known):
    """Where the box's inside begins down."""
    return known[(box.name, "top")] + box.style.rims[2]


def keys_in(box, word):
    """The number of this word of each box right in this one, as tuples (name, word)."""
    return [(inner.name, word) for inner in boxes_in(box)]


def numbers_of(boxes, word, known):
    """The known numbers of this word of these boxes."""
    return [known[(box.name, word)] for box in boxes]


def gaps_between(many, gap):
    """What the gaps between so many have together."""
    return gap * max(0, many - 1)


def place_of(name, numbers):
    """The place of a name, a tuple (left, top, wide, tall)."""
    return numbers[(name, "left")], numbers[(name, "top")], numbers[(name, "wide")], numbers[(name, "tall")]


def places_in(scene, numbers):
    """The list of places, tuples (name, left, top, wide, tall), in the tree's order."""
    return [(name, *place_of(name, numbers)) for name in scene.found]
