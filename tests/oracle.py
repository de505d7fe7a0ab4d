"""The document's rules told once more, to compare the program with.

They are written to be plainly the document's words: each rule asks for the numbers that it needs, and the lists of
needs stand apart from the rules, one row for each row of the document.
"""

import sys

from forest import all_in
from nestlaid.boxes import Grid, Picture, Pile, Row, Words
from nestlaid.shares import dealt, held, levelled
from nestlaid.wording import longest, wished, wrapped

# A number asked for within a number is a call within a call.
sys.setrecursionlimit(20000)


class InARing(Exception):
    pass


def sized(tracks, asks, gap):
    """Point 18, ask by ask and track by track."""
    size = [t if type(t) is int else 0 for t in tracks]
    for many in range(1, len(tracks) + 1):
        ahead, grown = list(size), [[0] for _ in tracks]
        for first, ask_many, wanted in asks:
            if ask_many != many:
                continue
            its = [t for t in range(len(tracks)) if first <= t <= first + many - 1]
            lack = wanted - sum(ahead[t] for t in its) - gap * (len(its) - 1)
            free = [t for t in its if type(tracks[t]) is not int]
            if lack > 0:
                for j, t in enumerate(free):
                    grown[t].append((j + 1) * lack // len(free) - j * lack // len(free))
        size = [ahead[t] + max(grown[t]) for t in range(len(tracks))]
    return size


class Oracle:
    def __init__(self, tree, wide=80, high=None):
        self.frame = (wide, high)
        rows = all_in(tree)
        self.names = [box.name for box, holder in rows]
        self.boxes = {box.name: box for box, holder in rows}
        self.holders = {box.name: holder for box, holder in rows}

    # What a number needs.

    def needs(self, name, word):
        box, holder = self.boxes[name], self.holders[name]
        inner = [b.name for b in getattr(box, "boxes", ())]
        beside = [b.name for b in holder.boxes] if holder else []
        style, stand = box.style, self.stand(box) if holder else None

        def each(some, *words):
            return [(n, w) for n in some for w in words]

        def sizes(size, side, else_needs):
            if size is None:
                return else_needs
            if type(size) is int:
                return []
            return [(holder.name, side)] if size[0] == "part" else [(size[1], size[2])]

        if word == "wish":
            return sizes(style.wide, "wide", each(inner, "wish", *(["least"] if isinstance(box, Grid) else [])))
        if word == "least":
            if style.least_wide is not None:
                return []
            part = type(style.wide) is tuple and style.wide[0] == "part"
            return each(inner, "least") + ([] if part else [(name, "wish")])
        if word == "flow":
            if not hasattr(box, "boxes"):
                return [(name, "wide")]
            more = []
            if isinstance(box, Row):
                more += each([b.name for b in box.boxes if self.stand(b) == "base"], "base")
                if box.turn:
                    more += [(name, "wide")] + each(inner, "wish")
            return each(inner, "rise") + more
        if word == "rise":
            return sizes(style.high, "tall", [(name, "flow")])
        if word == "base":
            if isinstance(box, Words):
                return []
            return [(inner[0], "base")] if inner else [(name, "rise")]
        if holder is None:
            return [(name, "rise")] if word == "tall" and self.frame[1] is None else []
        kind = type(holder)
        up = {w: (holder.name, w) for w in ("left", "top", "wide", "tall")}
        bases = each([b.name for b in holder.boxes if self.stand(b) == "base"], "base")
        if word == "wide":
            if kind is Row:
                return [up["wide"]] + each(beside, "least", "wish")
            if style.wide is not None:
                return [(name, "wish")]
            if kind is Grid:
                return [up["wide"]] + each(beside, "least", "wish")
            return [up["wide"]] + ([] if stand == "stretch" else [(name, "least"), (name, "wish")])
        if word == "tall":
            if kind is Pile:
                return [up["tall"]] + each(beside, "rise")
            if style.high is not None or stand != "stretch":
                return [(name, "rise")]
            if kind is Grid:
                return [up["tall"]] + each(beside, "rise")
            return [up["wide"]] + each(beside, "wish", "rise") + bases if holder.turn else [up["tall"]]
        if word == "left":
            if kind is Row:
                return [up["left"], up["wide"]] + each(beside, "wide", *(["wish"] if holder.turn else []))
            more = each(beside, "least", "wish") if kind is Grid else []
            return [up["left"], up["wide"], (name, "wide")] + more
        if kind is Row:
            more = [up["wide"]] + each(beside, "wish", "rise") if holder.turn else [up["tall"]]
            return [up["top"], (name, "tall")] + bases + more
        if kind is Pile:
            return [up["top"], up["tall"]] + each(beside, "tall")
        return [up["top"], up["tall"], (name, "tall")] + each(beside, "rise")

    def reads(self, name, word):
        box, holder = self.boxes[name], self.holders[name]
        told = {name}
        for its_word, size in (("wish", box.style.wide), ("rise", box.style.high)):
            if word == its_word and type(size) is tuple and size[0] == "part":
                told.add(holder.name)
        if word == "flow":
            told |= {b.name for b in getattr(box, "boxes", ())}
        if word in ("wide", "tall", "left", "top") and holder is not None:
            told.add(holder.name)
            if not isinstance(holder, Grid):
                told |= {b.name for b in holder.boxes}
        if word in ("wide", "tall") and holder is None:
            told.add("")
        return told

    # What all rules use.

    def stand(self, box):
        return box.style.stand or self.holders[box.name].stands

    def across(self, box, get):
        return max(0, get(box.name, "wide") - box.style.rims[0] - box.style.rims[1])

    def downward(self, box, get):
        return max(0, get(box.name, "tall") - box.style.rims[2] - box.style.rims[3])

    def held_wide(self, box, number):
        return held(number, box.style.least_wide if box.style.least_wide is not None else 0, box.style.most_wide)

    def held_high(self, box, number):
        return held(number, box.style.least_high if box.style.least_high is not None else 0, box.style.most_high)

    def told(self, box, size, inside, get):
        if type(size) is int:
            return size
        if size[0] == "part":
            return inside(self.holders[box.name], get) * size[1] // 1000
        return max(get(size[1], size[2]) + size[3], 0)

    def joined(self, sizes, gap):
        return sum(sizes) + gap * (len(sizes) - 1) if sizes else 0

    def asks(self, grid, word, get):
        first, many = (0, 2) if word in ("least", "wish") else (1, 3)
        return [(s[first], s[many], get(b.name, word)) for b, s in zip(grid.boxes, grid.spots)]

    def columns(self, grid, get):
        floors = sized(grid.columns, self.asks(grid, "least", get), grid.gap)
        wishes = sized(grid.columns, self.asks(grid, "wish", get), grid.gap)
        room = max(0, self.across(grid, get) - grid.gap * (len(floors) - 1))
        if sum(floors) >= room:
            return floors
        caps = [max(f, w) - f for f, w in zip(floors, wishes)]
        parts = dealt(room - sum(floors), caps, [int(c == "fit") for c in grid.columns])[1]
        return self.shares(grid.columns, [f + p for f, p in zip(floors, parts)], room)

    def rows(self, grid, get):
        sizes = sized(grid.rows, self.asks(grid, "rise", get), grid.lane)
        return self.shares(grid.rows, sizes, self.downward(grid, get) - grid.lane * (len(sizes) - 1))

    def shares(self, tracks, sizes, room):
        shared = [t for t in range(len(tracks)) if type(tracks[t]) is tuple]
        others = sum(sizes[t] for t in range(len(tracks)) if t not in shared)
        parts = levelled(max(0, room - others), [sizes[t] for t in shared], [tracks[t][1] for t in shared])[1]
        return [parts[shared.index(t)] if t in shared else sizes[t] for t in range(len(tracks))]

    def span(self, sizes, gap, first, many):
        ends = [0]
        for size in sizes:
            ends.append(ends[-1] + size + gap)
        return ends[first], ends[first + many] - gap - ends[first]

    def spot(self, box):
        holder = self.holders[box.name]
        return holder.spots[[b.name for b in holder.boxes].index(box.name)]

    def its_columns(self, box, get):
        holder, spot = self.holders[box.name], self.spot(box)
        return self.span(self.columns(holder, get), holder.gap, spot[0], spot[2])

    def its_rows(self, box, get):
        holder, spot = self.holders[box.name], self.spot(box)
        return self.span(self.rows(holder, get), holder.lane, spot[1], spot[3])

    def lines(self, row, get):
        if not row.turn:
            return [list(row.boxes)]
        lines, rest = [], list(row.boxes)
        while rest:
            many = 1
            while many < len(rest) and self.joined([get(b.name, "wish") for b in rest[:many + 1]], row.gap) <= (
                    self.across(row, get)):
                many += 1
            lines.append(rest[:many])
            rest = rest[many:]
        return lines

    def line_of(self, box, get):
        lines = self.lines(self.holders[box.name], get)
        return next((k, line) for k, line in enumerate(lines) if box.name in [b.name for b in line])

    def share_of(self, box, boxes, room, wish, least, most, get):
        wishes = [get(b.name, wish) for b in boxes]
        if sum(wishes) <= room:
            caps = [None if most(b) is None else max(0, most(b) - w) for b, w in zip(boxes, wishes)]
            parts = dealt(room - sum(wishes), caps, [b.style.grow for b in boxes])[1]
            gets = [w + p for w, p in zip(wishes, parts)]
        else:
            caps = [max(0, w - least(b)) for b, w in zip(boxes, wishes)]
            parts = dealt(sum(wishes) - room, caps, [b.style.shrink for b in boxes])[1]
            gets = [w - p for w, p in zip(wishes, parts)]
        return gets[[b.name for b in boxes].index(box.name)]

    def bar(self, line, get):
        return max([get(b.name, "base") for b in line if self.stand(b) == "base"] + [0])

    def height(self, line, get):
        bar = self.bar(line, get)
        sums = [bar + get(b.name, "rise") - get(b.name, "base") for b in line if self.stand(b) == "base"]
        return max([get(b.name, "rise") for b in line if self.stand(b) != "base"] + sums + [0])

    def from_start(self, pack, inside, sizes, gap, at):
        so_many = inside - self.joined(sizes, gap)
        behind = sum(sizes[:at]) + gap * at
        if pack == "between":
            return behind + (so_many * at // (len(sizes) - 1) if so_many > 0 and len(sizes) > 1 else 0)
        return behind + {"start": 0, "end": so_many, "middle": so_many // 2}[pack]

    def by_stand(self, stand, room, size):
        return {"start": 0, "stretch": 0, "base": 0, "end": room - size, "middle": (room - size) // 2}[stand]

    # The rules.

    def wish(self, box, get):
        if box.style.wide is not None:
            return self.held_wide(box, self.told(box, box.style.wide, self.across, get))
        if isinstance(box, Words):
            inner = wished(box.text)
        elif isinstance(box, Picture):
            inner = box.across
        elif isinstance(box, Row):
            inner = self.joined([get(b.name, "wish") for b in box.boxes], box.gap)
        elif isinstance(box, Pile):
            inner = max([get(b.name, "wish") for b in box.boxes] + [0])
        else:
            both = [sized(box.columns, self.asks(box, word, get), box.gap) for word in ("least", "wish")]
            inner = self.joined([max(pair) for pair in zip(*both)], box.gap)
        return self.held_wide(box, box.style.rims[0] + box.style.rims[1] + inner)

    def least(self, box, get):
        if box.style.least_wide is not None:
            return box.style.least_wide
        if isinstance(box, Words):
            inner = longest(box.text)
        elif isinstance(box, Picture):
            inner = box.across
        elif isinstance(box, Grid):
            inner = self.joined(sized(box.columns, self.asks(box, "least", get), box.gap), box.gap)
        else:
            leasts = [get(b.name, "least") for b in box.boxes]
            turns = isinstance(box, Pile) or box.turn
            inner = max(leasts + [0]) if turns else self.joined(leasts, box.gap)
        inner += box.style.rims[0] + box.style.rims[1]
        if type(box.style.wide) is tuple and box.style.wide[0] == "part":
            return inner
        return min(inner, get(box.name, "wish"))

    def wide(self, box, get):
        holder = self.holders[box.name]
        if holder is None:
            return self.frame[0]
        if isinstance(holder, Row):
            line = self.line_of(box, get)[1]
            room = max(0, self.across(holder, get) - holder.gap * (len(line) - 1))
            least, most = lambda b: get(b.name, "least"), lambda b: b.style.most_wide
            return self.share_of(box, line, room, "wish", least, most, get)
        if box.style.wide is not None:
            return get(box.name, "wish")
        room = self.its_columns(box, get)[1] if isinstance(holder, Grid) else self.across(holder, get)
        if self.stand(box) == "stretch":
            return self.held_wide(box, room)
        return max(min(get(box.name, "wish"), room), get(box.name, "least"))

    def flow(self, box, get):
        if isinstance(box, Words):
            inner = len(wrapped(box.text, self.across(box, get)))
        elif isinstance(box, Picture):
            inner = self.across(box, get) * box.down // box.across
        elif isinstance(box, Row):
            inner = self.joined([self.height(line, get) for line in self.lines(box, get)], box.lane)
        elif isinstance(box, Pile):
            inner = self.joined([get(b.name, "rise") for b in box.boxes], box.gap)
        else:
            inner = self.joined(sized(box.rows, self.asks(box, "rise", get), box.lane), box.lane)
        return inner + box.style.rims[2] + box.style.rims[3]

    def rise(self, box, get):
        if box.style.high is None:
            return self.held_high(box, get(box.name, "flow"))
        return self.held_high(box, self.told(box, box.style.high, self.downward, get))

    def tall(self, box, get):
        holder = self.holders[box.name]
        if holder is None:
            return get(box.name, "rise") if self.frame[1] is None else self.frame[1]
        if isinstance(holder, Pile):
            room = max(0, self.downward(holder, get) - holder.gap * (len(holder.boxes) - 1))

            def least(b):
                return get(b.name, "rise") if b.style.least_high is None else b.style.least_high

            return self.share_of(box, holder.boxes, room, "rise", least, lambda b: b.style.most_high, get)
        if box.style.high is not None or self.stand(box) != "stretch":
            return get(box.name, "rise")
        if isinstance(holder, Grid):
            return self.held_high(box, self.its_rows(box, get)[1])
        if holder.turn:
            return self.held_high(box, self.height(self.line_of(box, get)[1], get))
        return self.held_high(box, self.downward(holder, get))

    def base(self, box, get):
        if isinstance(box, Words):
            return box.style.rims[2] + 1
        if getattr(box, "boxes", ()):
            return box.style.rims[2] + get(box.boxes[0].name, "base")
        return get(box.name, "rise")

    def left(self, box, get):
        holder = self.holders[box.name]
        if holder is None:
            return 0
        start, inside = get(holder.name, "left") + holder.style.rims[0], self.across(holder, get)
        if isinstance(holder, Row):
            line = self.line_of(box, get)[1]
            at = [b.name for b in line].index(box.name)
            return start + self.from_start(holder.pack, inside, [get(b.name, "wide") for b in line], holder.gap, at)
        ahead, room = self.its_columns(box, get) if isinstance(holder, Grid) else (0, inside)
        return start + ahead + self.by_stand(self.stand(box), room, get(box.name, "wide"))

    def top(self, box, get):
        holder = self.holders[box.name]
        if holder is None:
            return 0
        start, tall = get(holder.name, "top") + holder.style.rims[2], get(box.name, "tall")
        if isinstance(holder, Pile):
            at = [b.name for b in holder.boxes].index(box.name)
            talls = [get(b.name, "tall") for b in holder.boxes]
            return start + self.from_start(holder.pack, self.downward(holder, get), talls, holder.gap, at)
        if isinstance(holder, Grid):
            ahead, room = self.its_rows(box, get)
            return start + ahead + self.by_stand(self.stand(box), room, tall)
        at, line = self.line_of(box, get)
        if holder.turn:
            heights = [self.height(other, get) for other in self.lines(holder, get)]
            start, room = start + sum(heights[:at]) + holder.lane * at, heights[at]
        else:
            room = self.downward(holder, get)
        if self.stand(box) == "base":
            return start + self.bar(line, get) - get(box.name, "base")
        return start + self.by_stand(self.stand(box), room, tall)

    # All numbers together.

    def by_rule(self, name, word, known):
        return getattr(self, word)(self.boxes[name], lambda n, w: known[n, w])

    def asked(self):
        seen, waiting = set(), [(n, w) for n in self.names for w in ("wide", "tall", "left", "top")]
        while waiting:
            key = waiting.pop()
            if key not in seen:
                seen.add(key)
                waiting += self.needs(*key)
        order = ("least", "wish", "wide", "flow", "rise", "tall", "base", "left", "top")
        return [(n, w) for n in self.names for w in order if (n, w) in seen]

    def depths(self):
        """How long the longest row is that begins with each asked number; InARing where there is a ring."""
        told, within = {}, set()

        def depth(key):
            if key in within:
                raise InARing
            if key not in told:
                within.add(key)
                told[key] = 1 + max([depth(need) for need in self.needs(*key)] + [0])
                within.discard(key)
            return told[key]

        for key in self.asked():
            depth(key)
        return told

    def settled(self):
        """A dict of all asked numbers, each asked for by those that need it; InARing where there is a ring."""
        known = {}
        depths = self.depths()
        for key in sorted(depths, key=depths.get):
            known[key] = self.by_rule(*key, known)
        return known
