"""Tracks of a grid: their sizes by what is asked of them, and where they lie."""

from nestlaid.checks import is_from_one, is_share, refuse_no_tracks
from nestlaid.errors import NoAsk
from nestlaid.shares import is_count, is_whole, levelled, refuse_no_counts, running_parts


def track_sizes(tracks, asks, gap):
    """The list of the tracks' sizes by the asks, tuples (first, many, size), with the gap between two tracks."""
    refuse_no_tracks(tracks)
    refuse_no_asks(asks, len(tracks))
    refuse_no_counts([gap])
    sizes = [track if is_whole(track) else 0 for track in tracks]
    for many in sorted(set([ask[1] for ask in asks])):
        sizes = grown(tracks, sizes, [ask for ask in asks if ask[1] == many], gap)
    return sizes


def refuse_no_asks(things, tracks):
    if not isinstance(things, list) or not all([is_ask(thing, tracks) for thing in things]):
        raise NoAsk("this is no list of asks, tuples (first, many, size) within the tracks")


def is_ask(thing, tracks):
    """True just where the thing is an ask of some of so many tracks."""
    if not isinstance(thing, tuple) or len(thing) != 3:
        return False
    first, many, size = thing
    return is_count(first) and is_from_one(many) and is_count(size) and first + many <= tracks


def grown(tracks, sizes, asks, gap):
    """The sizes behind asks of one many, all at once: a track grows by the most that one of them deals to it."""
    growths = [0] * len(tracks)
    for first, many, size in asks:
        start, now = stretch_of(sizes, first, many, gap)
        free = [at for at in range(first, first + many) if not is_whole(tracks[at])]
        lacking = max(0, size - now)
        for at, part in zip(free, running_parts(lacking, [1] * len(free))):
            growths[at] = max(growths[at], part)
    return [size + growth for size, growth in zip(sizes, growths)]


def stretch_of(sizes, first, many, gap):
    """Where so many tracks begin, behind those ahead of them, and what they have together with their gaps."""
    start = sum(sizes[:first]) + gap * first
    return start, sum(sizes[first:first + many]) + gap * (many - 1)


def with_shares_levelled(tracks, sizes, room):
    """The sizes, but those of shares levelled to what the other tracks leave of the room."""
    shared = [at for at, track in enumerate(tracks) if is_share(track)]
    floors = [sizes[at] for at in shared]
    total = max(0, room - sum(sizes) + sum(floors))
    level, parts = levelled(total, floors, [tracks[at][1] for at in shared])
    new_sizes = list(sizes)
    for at, part in zip(shared, parts):
        new_sizes[at] = part
    return new_sizes
