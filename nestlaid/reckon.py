"""Numbers reckoned anew behind a change: just those for which there is a reason."""

from nestlaid.boxes import same_record
from nestlaid.rules import FRAME, number_by_rule, reads_in
from nestlaid.scenes import Scene, place_of
from nestlaid.settle import in_order, needs_of_asked
from nestlaid.trees import looked_through


class State:
    """A tree in a frame with its settled numbers; once made it never changes."""

    def __init__(self, root, scene, numbers, reckoned):
        self.root = root
        self.scene = scene
        self.numbers = numbers
        self.reckoned = reckoned


def state_ahead_of_all():
    """What is ahead of the first state: nothing was asked yet."""
    return State(None, Scene({}, None), {}, [])


def state_behind(ahead, tree, bounds):
    """The state of this tree in this frame; what there is no reason to reckon anew is kept from the one ahead."""
    scene = Scene(looked_through(tree), bounds)
    needed = needs_of_asked(scene)
    turned = turned_boxes(ahead.scene, scene)
    numbers = {}
    reckoned = []
    for key in in_order(needed):
        name, word = key
        reason = reason_for(key, reads_in(scene, name, word), needed[key], turned, ahead.numbers, numbers)
        if reason is None:
            numbers[key] = ahead.numbers[key]
        else:
            numbers[key] = number_by_rule(scene, name, word, numbers)
            reckoned.append((name, word, reason))
    return State(tree, scene, numbers, reckoned)


def turned_boxes(ahead, scene):
    """A dict of the names whose boxes weren't there ahead or have another record, and of the frame's if it turned."""
    turned = {}
    for name in scene.found:
        if name not in ahead.found or not same_record(ahead.found[name][0], scene.found[name][0]):
            turned[name] = True
    if ahead.bounds != scene.bounds:
        turned[FRAME] = True
    return turned


def reason_for(key, read, needed, turned, ahead, numbers):
    """A reason to reckon the number anew, None where there is none."""
    if key not in ahead:
        return ("new",)
    for name in read:
        if name in turned:
            return "box", name
    for need in needed:
        if need not in ahead or ahead[need] != numbers[need]:
            return "number", *need
    return None


def turned_places(ahead, state):
    """The list of tuples (name, place ahead, place now) of the boxes whose place turned, that came, or that went."""
    turns = []
    for name in state.scene.found:
        before = place_of(name, ahead.numbers) if name in ahead.scene.found else None
        now = place_of(name, state.numbers)
        if before != now:
            turns.append((name, before, now))
    gone = [name for name in ahead.scene.found if name not in state.scene.found]
    return turns + [(name, place_of(name, ahead.numbers), None) for name in gone]
