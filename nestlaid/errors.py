"""All refusals: each kind stands straight under NestError and under no other one."""


class NestError(ValueError):
    """Any refusal."""


class NoNumber(NestError):
    """What should be a whole number, or a list of such, isn't one."""


class NoText(NestError):
    """What should be a text isn't one; `line` is the number of its first wrong line."""

    def __init__(self, why="", line=0):
        super().__init__(why)
        self.line = line


class NoName(NestError):
    """What should be a name isn't one, or isn't one that is known."""


class NoStyle(NestError):
    """What should be a style, or a part of one, isn't it."""


class NoBox(NestError):
    """What should be a box, or a list of boxes, isn't one."""


class NoTruth(NestError):
    """What should be True or False is neither."""


class NoPack(NestError):
    """What should be a pack isn't one."""


class NoStand(NestError):
    """What should be a stand isn't one."""


class NoTrack(NestError):
    """What should be a list of tracks isn't one."""


class NoSpot(NestError):
    """What should be a spot in a grid isn't one that may stand there."""


class NoTree(NestError):
    """What should be a tree isn't one."""


class NoFrame(NestError):
    """What should be a frame's wide or high isn't one."""


class NoHolder(NestError):
    """What should be a holder isn't one, or there is none."""


class NoPlace(NestError):
    """What should be a place among a holder's boxes isn't one."""


class NoWords(NestError):
    """What should be a box of words isn't one."""


class NoAsk(NestError):
    """What should be a list of asks isn't one."""


class NoWord(NestError):
    """What should be the word of a number isn't one, or it isn't asked."""


class Ring(NestError):
    """Numbers need one another in a ring; `ring` lists them, each ahead of the one that it needs."""

    def __init__(self, why="", ring=()):
        super().__init__(why)
        # A list of its own, so that nobody else's later change shows in it.
        self.ring = list(ring)


class NoDeed(NestError):
    """What should be a list of deeds isn't one, or there is no deed to undo."""


class Busy(NestError):
    """The board is calling its watchers and takes no deed."""


class NoRow(NestError):
    """What should be a row for the desk isn't one."""
