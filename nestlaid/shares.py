"""Numbers held between bounds, and totals dealt out by a level."""

from nestlaid.errors import NoNumber


def is_whole(thing):
    """True just where the thing is an int that is no truth."""
    return isinstance(thing, int) and not isinstance(thing, bool)


def is_count(thing):
    """True just where the thing is a whole number from 0 on."""
    return is_whole(thing) and thing >= 0


def held(number, least, most):
    """The number, but no more than the most (None: no bound) and, ahead of that, no less than the least."""
    if most is not None and number > most:
        number = most
    # The least comes last, so that it wins where the most is below it.
    return max(number, least)


def dealt(total, caps, weights):
    """The level and the list of what each one gets of the total, none more than its cap (None: no cap)."""
    refuse_no_counts([total])
    refuse_no_list(caps)
    refuse_no_counts([cap for cap in caps if cap is not None])
    refuse_no_weights(weights, len(caps))
    limits = [cap if weight > 0 else 0 for cap, weight in zip(caps, weights)]
    if None not in limits and sum(limits) <= total:
        return None, limits
    return by_level(total, limits, weights, cap_binds)


def levelled(total, floors, weights):
    """The level and the list of what each one gets of the total, none less than its floor."""
    refuse_no_counts([total])
    refuse_no_list(floors)
    refuse_no_counts(floors)
    refuse_no_weights(weights, len(floors))
    if sum(weights) == 0 or sum(floors) >= total:
        return None, list(floors)
    return by_level(total, floors, weights, floor_binds)


def refuse_no_list(thing):
    if not isinstance(thing, list):
        raise NoNumber("this is no list")


def refuse_no_counts(things):
    for thing in things:
        if not is_count(thing):
            raise NoNumber("this is no whole number from 0 on")


def refuse_no_weights(weights, many):
    refuse_no_list(weights)
    refuse_no_counts(weights)
    if len(weights) != many:
        raise NoNumber("the lists are not of one length")


def by_level(total, limits, weights, binds):
    """The level and the parts: who is bound gets its limit, the rest are dealt to in order."""
    free, room, whole_weight = unbound(total, limits, weights, binds)
    parts = list(limits)
    for at, part in zip(free, running_parts(room, [weights[place] for place in free])):
        parts[at] = part
    return in_lowest_terms(room, whole_weight), parts


def unbound(total, limits, weights, binds):
    """The places of those that get level times weight, what is left for them, and their weights' sum."""
    free = [at for at, weight in enumerate(weights) if weight > 0]
    room = total - sum([limit for limit, weight in zip(limits, weights) if weight == 0])
    whole_weight = sum(weights)
    while True:
        bound = [at for at in free if binds(limits[at], weights[at], room, whole_weight)]
        if len(bound) == 0:
            return free, room, whole_weight
        # This moves the level one way only, so who is bound once stays bound,
        # and it never binds all: then the limits would have settled it without a level.
        room -= sum([limits[at] for at in bound])
        whole_weight -= sum([weights[at] for at in bound])
        free = [at for at in free if at not in bound]


def cap_binds(cap, weight, top, bottom):
    """True where the cap is no more than the level top / bottom times the weight."""
    return cap is not None and cap * bottom <= top * weight


def floor_binds(floor, weight, top, bottom):
    """True where the floor is no less than the level top / bottom times the weight."""
    return floor * bottom >= top * weight


def running_parts(room, weights):
    """Parts of the room by weights: the first so many together have theirs rounded down."""
    whole = sum(weights)
    parts = []
    weight_so_far = 0
    dealt_so_far = 0
    for weight in weights:
        weight_so_far += weight
        dealt_now = room * weight_so_far // whole
        parts.append(dealt_now - dealt_so_far)
        dealt_so_far = dealt_now
    return parts


def in_lowest_terms(top, bottom):
    """The fraction top / bottom, bottom from 1 on, as a tuple in lowest terms."""
    divisor = bottom
    rest = top
    while rest > 0:
        divisor, rest = rest, divisor % rest
    return top // divisor, bottom // divisor
