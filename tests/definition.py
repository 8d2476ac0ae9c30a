"""The definition of the six limits (points 8, 10, 18, 19), over the whole row of what was let in and released.

A row is a list of deeds ("let", key, group, cost, moment) and ("release", key, moment). Nothing is counted on the way:
each question goes over the whole row again.
"""

SMALL = 400


def looked_at(limit, group):
    if limit[1] == "pool":
        return any(share[0] == group for share in limit[3][1])
    return limit[2] == () or group in limit[2]


def lets_of(limit, deeds):
    """The tuples (moment, cost) of what the limit looks at."""
    return [(deed[4], deed[3]) for deed in deeds if deed[0] == "let" and looked_at(limit, deed[2])]


def moments_between(lets, more):
    """All moments that could matter; where these are too many, those of the lets, at which alone a sum grows."""
    first, last = lets[0][0] - more, lets[-1][0] + more
    if last - first < SMALL:
        return list(range(first, last + 1))
    return sorted({moment for moment, cost in lets})


def cost_between(lets, first, last):
    return sum(cost for moment, cost in lets if first <= moment <= last)


def window_keeps(numbers, lets):
    most, length = numbers
    return all(cost_between(lets, m - length + 1, m) <= most for m in moments_between(lets, length))


def span_keeps(numbers, lets):
    most, length = numbers
    spans = {moment // length for moment, cost in lets}
    return all(cost_between(lets, k * length, k * length + length - 1) <= most for k in spans)


def bucket_keeps(numbers, lets):
    size, every = numbers
    moments = moments_between(lets, 1)
    return all(
        every * cost_between(lets, s, t) <= size * every + (t - s) for s in moments for t in moments if s <= t
    )


def gap_keeps(numbers, lets):
    moments = [moment for moment, cost in lets]
    return all(
        moments[later] - moments[earlier] >= numbers[0] for later in range(len(moments)) for earlier in range(later)
    )


def held_after(limit, deeds):
    """The dict of the keys that hold something to their groups and costs."""
    held = {}
    for deed in deeds:
        if deed[0] == "let" and looked_at(limit, deed[2]):
            held[deed[1]] = (deed[2], deed[3])
        elif deed[0] == "release":
            held.pop(deed[1], None)
    return held


def holding_fits(limit, held):
    if limit[1] == "held":
        return sum(cost for group, cost in held.values()) <= limit[3][0]
    most, shares = limit[3]
    beyond = 0
    for name, own, ceiling in shares:
        use = sum(cost for group, cost in held.values() if group == name)
        if use > ceiling:
            return False
        beyond += max(0, use - own)
    return beyond <= most - sum(own for name, own, ceiling in shares)


TIMED = {"window": window_keeps, "span": span_keeps, "bucket": bucket_keeps, "gap": gap_keeps}


def keeps(limit, deeds):
    """Whether the limit holds for the row (point 8)."""
    if limit[1] in TIMED:
        lets = lets_of(limit, deeds)
        return not lets or TIMED[limit[1]](limit[3], lets)
    return all(holding_fits(limit, held_after(limit, deeds[:end])) for end in range(1, len(deeds) + 1))


def has_room(limit, deeds, moment, group, cost):
    """Point 10: the limit still holds when the request is let in behind the row."""
    return not looked_at(limit, group) or keeps(limit, deeds + [("let", "new", group, cost, moment)])


def earliest(limit, deeds, moment, group, cost, horizon):
    """Point 18, for limits that have forgotten all after so many moments: the moments are tried one by one."""
    for tried in range(moment, moment + horizon + 1):
        if has_room(limit, deeds, tried, group, cost):
            return tried
    return None


def state(limit, deeds, moment):
    """Point 19."""
    word, numbers = limit[1], limit[3]
    lets = lets_of(limit, deeds)
    if word == "window":
        moments = sorted({then for then, cost in lets if then > moment - numbers[1]})
        return tuple((then, cost_between(lets, then, then)) for then in moments)
    if word == "span":
        k = moment // numbers[1]
        used = cost_between(lets, k * numbers[1], k * numbers[1] + numbers[1] - 1)
        return (k, used) if used else ()
    if word == "bucket":
        starts = range(moment + 1) if moment < SMALL else [then for then, cost in lets]
        levels = [numbers[1] * cost_between(lets, s, moment) - moment + s for s in starts]
        missing = max(levels, default=0)
        return (missing,) if missing > 0 else ()
    if word == "gap":
        last = max((then for then, cost in lets), default=None)
        return () if last is None or last + numbers[0] <= moment else (last,)
    held = held_after(limit, deeds)
    if word == "held":
        return tuple(sorted((key, cost) for key, (group, cost) in held.items()))
    return tuple(sorted((key, group, cost) for key, (group, cost) in held.items()))
