"""The board: a tree in a frame that is settled at all times, changed by deeds, and watched."""

from nestlaid.deeds import behind_deed, refuse_no_deeds
from nestlaid.errors import Busy, NoDeed, NoWord
from nestlaid.reckon import state_ahead_of_all, state_behind, turned_places
from nestlaid.rules import refuse_no_word
from nestlaid.scenes import place_of, places_in, scene_of
from nestlaid.trees import WIDE, looked_up


class Board:
    """Keeps a tree in a frame."""

    def __init__(self, tree, *, wide=WIDE, high=None):
        scene = scene_of(tree, wide, high)
        self.state = state_behind(state_ahead_of_all(), tree, scene.bounds)
        self.past = []
        self.watchers = []
        self.busy = False

    def tree(self):
        return self.state.root

    def frame(self):
        """The frame, a tuple (wide, high)."""
        return self.state.scene.bounds

    def place(self, name):
        """The place of the named box, a tuple (left, top, wide, tall)."""
        looked_up(self.state.scene.found, name)
        return place_of(name, self.state.numbers)

    def places(self):
        """The list of all places, tuples (name, left, top, wide, tall), in the tree's order."""
        return places_in(self.state.scene, self.state.numbers)

    def number(self, name, word):
        """The number of this word of the named box."""
        looked_up(self.state.scene.found, name)
        refuse_no_word(word)
        if (name, word) not in self.state.numbers:
            raise NoWord("this number isn't asked")
        return self.state.numbers[(name, word)]

    def put(self, holder, at, box, *, spot=None):
        self.do_all([("put", holder, at, box, spot)])

    def take(self, name):
        self.do_all([("take", name)])

    def restyle(self, name, style):
        self.do_all([("restyle", name, style)])

    def retell(self, name, text):
        self.do_all([("retell", name, text)])

    def set_frame(self, *, wide=WIDE, high=None):
        self.do_all([("frame", wide, high)])

    def anew(self):
        """The list of what the last deed reckoned anew, tuples (name, word, reason)."""
        return list(self.state.reckoned)

    def together(self, deeds):
        """Does a list of deeds as one."""
        self.do_all(deeds)

    def undo(self):
        """Undoes the last deed that isn't undone yet."""
        self.refuse_while_busy()
        if len(self.past) == 0:
            raise NoDeed("there is no deed to undo")
        ahead = self.past.pop()
        self.go_on(state_behind(self.state, ahead.root, ahead.scene.bounds))

    def watch(self, watcher):
        """From now on calls the watcher behind each deed by which a place turned, a box came or went."""
        self.refuse_while_busy()
        self.watchers.append(watcher)

    def refuse_while_busy(self):
        if self.busy:
            raise Busy("the board is calling its watchers")

    def do_all(self, deeds):
        """Does the deeds, one by one, as one deed; nothing has changed where one is refused."""
        self.refuse_while_busy()
        refuse_no_deeds(deeds)
        tree = self.state.root
        bounds = self.state.scene.bounds
        for deed in deeds:
            tree, bounds = behind_deed(tree, bounds, deed)
        state = state_behind(self.state, tree, bounds)
        self.past.append(self.state)
        self.go_on(state)

    def go_on(self, state):
        """Takes the state and tells the watchers what turned by it."""
        turns = turned_places(self.state, state)
        self.state = state
        if len(turns) > 0:
            self.call_watchers(turns)

    def call_watchers(self, turns):
        self.busy = True
        try:
            for watcher in self.watchers:
                watcher(list(turns))
        finally:
            self.busy = False
