"""All numbers of a tree in a frame: which are asked, and where they settle, or the ring in which they don't."""

from nestlaid.errors import Ring
from nestlaid.rules import WORDS, needs_in, number_by_rule
from nestlaid.scenes import scene_of
from nestlaid.trees import WIDE

PLACE_WORDS = ("wide", "tall", "left", "top")


def asked(tree, *, wide=WIDE, high=None):
    """The list of the asked numbers, tuples (name, word), in the order of the names and of the words."""
    return list(needs_of_asked(scene_of(tree, wide, high)))


def settled(tree, *, wide=WIDE, high=None):
    """The list of all asked numbers, tuples (name, word, number), each behind those that it needs."""
    numbers = settled_numbers(scene_of(tree, wide, high))
    return [(name, word, number) for (name, word), number in numbers.items()]


def longest_row(tree, *, wide=WIDE, high=None):
    """How many asked numbers can stand in a row, each of which needs the next one."""
    needed = needs_of_asked(scene_of(tree, wide, high))
    lengths = {}
    for key in in_order(needed):
        lengths[key] = 1 + max([lengths[need] for need in needed[key]], default=0)
    return max(list(lengths.values()))


def passes(tree, begin, *, wide=WIDE, high=None):
    """How many passes come from these numbers to the settled ones, and a dict of those."""
    scene = scene_of(tree, wide, high)
    needed = needs_of_asked(scene)
    # A ring is refused here, ahead of any pass.
    in_order(needed)
    users = users_of(needed)
    numbers = {key: begin.get(key, 0) for key in needed}
    many = 0
    changes = changes_of_pass(scene, list(needed), numbers)
    while len(changes) > 0:
        many += 1
        for key in changes:
            numbers[key] = changes[key]
        # By its rule a number may change only where one that it needs has changed.
        waiting = {user: True for key in changes for user in users[key]}
        changes = changes_of_pass(scene, list(waiting), numbers)
    return many, numbers


def changes_of_pass(scene, keys, numbers):
    """Those of the keys whose number is another one by its rule from these numbers, with that."""
    told = {(name, word): number_by_rule(scene, name, word, numbers) for name, word in keys}
    return {key: told[key] for key in told if told[key] != numbers[key]}


def needs_of_asked(scene):
    """A dict from each asked number, in order, to the list of those that it needs."""
    needed = {}
    waiting = [(name, word) for name in scene.found for word in PLACE_WORDS]
    while len(waiting) > 0:
        key = waiting.pop()
        if key not in needed:
            name, word = key
            needed[key] = needs_in(scene, name, word)
            waiting.extend(needed[key])
    ordered = [(name, word) for name in scene.found for word in WORDS]
    return {key: needed[key] for key in ordered if key in needed}


def users_of(needed):
    """A dict from each number to the list of those that need it."""
    users = {key: [] for key in needed}
    for key in needed:
        for need in needed[key]:
            users[need].append(key)
    return users


def in_order(needed):
    """The list of the numbers, each behind all that it needs; refused with a ring where there is no such list."""
    users = users_of(needed)
    lacking = {key: len(needed[key]) for key in needed}
    order = [key for key in needed if lacking[key] == 0]
    at = 0
    while at < len(order):
        key = order[at]
        for user in users[key]:
            lacking[user] -= 1
            if lacking[user] == 0:
                order.append(user)
        at += 1
    if len(order) < len(needed):
        raise Ring("numbers need one another in a ring", ring_among(needed, lacking))
    return order


def ring_among(needed, lacking):
    """A ring among the numbers that lack something: each of these needs another one of them."""
    key = [stuck for stuck in needed if lacking[stuck] > 0][0]
    places = {}
    while key not in places:
        places[key] = len(places)
        key = [need for need in needed[key] if lacking[need] > 0][0]
    return list(places)[places[key]:]


def settled_numbers(scene):
    """A dict from each asked number to what it is, each behind all that it needs."""
    numbers = {}
    for name, word in in_order(needs_of_asked(scene)):
        numbers[(name, word)] = number_by_rule(scene, name, word, numbers)
    return numbers
