"""The judge, which tells from the definitions of the limits alone whether deeds keep them. It decides no request."""

from limitweave.books import looks_at

# More than any limit takes to have room again: the costs of 2000 deeds, times the greatest number.
FAR = 10000000000000


def lets_seen(limit, deeds):
    """Return the tuples of number, cost and moment of the deeds "let" that the limit looks at."""
    return [
        (number, deed[3], deed[4])
        for number, deed in enumerate(deeds)
        if deed[0] == "let" and looks_at(limit, deed[2])
    ]


def loads_since(lets, begins):
    """Return the loads that are the sums of the costs from the moments of the list on, which do not fall."""
    found = []
    ahead = 0
    total = 0
    for (number, cost, _), begin in zip(lets, begins):
        total += cost
        while lets[ahead][2] < begin:
            total -= lets[ahead][1]
            ahead += 1
        found.append((number, total))
    return found


def bucket_loads(every, lets):
    """Return the loads of a limit with the word "bucket"."""
    found = []
    total = 0
    starts = []
    for number, cost, moment in lets:
        # Of the sums that begin at this moment or ahead of it, the one that is greatest now stays so.
        starts.append(max(starts[-1:] + [moment - every * total]))
        total += cost
        found.append((number, every * total - moment + starts[-1]))
    return found


def gap_loads(lets):
    """Return the loads of a limit with the word "gap"."""
    found = []
    last = None
    for number, _, moment in lets:
        found.append((number, None if last is None else moment - last))
        last = moment
    return found


def held_loads(limit, deeds):
    """Return the loads of a limit with the word "held"."""
    found = []
    costs = {}
    total = 0
    for number, deed in enumerate(deeds):
        key = deed[1]
        if deed[0] == "release":
            total -= costs.pop(key, 0)
        elif looks_at(limit, deed[2]):
            costs[key] = deed[3]
            total += deed[3]
            found.append((number, total))
    return found


def pool_uses(limit, deeds):
    """Return the tuples of number, group and the dict of the uses for the deeds "let" that the pool looks at."""
    found = []
    uses = {group: 0 for group, own, ceiling in limit[3][1]}
    requests = {}
    for number, deed in enumerate(deeds):
        if deed[0] == "release":
            group, cost = requests.pop(deed[1], (None, 0))
            if group is not None:
                uses[group] -= cost
        elif deed[2] in uses:
            requests[deed[1]] = (deed[2], deed[3])
            uses[deed[2]] += deed[3]
            found.append((number, deed[2], dict(uses)))
    return found


def beyond_shares(shares, uses):
    """Return the sum of what the groups use beyond their own shares."""
    return sum([max(0, uses[group] - own) for group, own, ceiling in shares])


def pool_loads(limit, deeds):
    """Return the loads of a limit with the word "pool"."""
    shares = limit[3][1]
    return [(number, beyond_shares(shares, uses)) for number, _, uses in pool_uses(limit, deeds)]


def loads(limit, deeds):
    """Return the list of the tuples of number and load for the deeds "let" that the limit looks at."""
    word = limit[1]
    if word == "held":
        return held_loads(limit, deeds)
    if word == "pool":
        return pool_loads(limit, deeds)
    lets = lets_seen(limit, deeds)
    if word == "gap":
        return gap_loads(lets)
    step = limit[3][1]
    if word == "bucket":
        return bucket_loads(step, lets)
    if word == "window":
        return loads_since(lets, [moment - step + 1 for number, cost, moment in lets])
    return loads_since(lets, [moment - moment % step for number, cost, moment in lets])


def fullest(limit, deeds):
    """Return the first tuple of `loads` with the greatest load, for a gap with the least one, or None."""
    found = [pair for pair in loads(limit, deeds) if pair[1] is not None]
    if limit[1] == "gap":
        return min(found, key=lambda pair: pair[1], default=None)
    return max(found, key=lambda pair: pair[1], default=None)


def is_too_much(limit, load):
    """Tell whether a limit is broken at a deed where it has this load; of a pool, its ceilings aside."""
    word, numbers = limit[1], limit[3]
    if word == "gap":
        return load is not None and load < numbers[0]
    if word == "bucket":
        return load > numbers[0] * numbers[1]
    if word == "pool":
        return load > numbers[0] - sum([own for group, own, ceiling in numbers[1]])
    return load > numbers[0]


def above_ceilings(limit, deeds):
    """Return the list of the numbers of the deeds at which a pool has a use above the ceiling."""
    ceilings = {group: ceiling for group, own, ceiling in limit[3][1]}
    return [number for number, group, uses in pool_uses(limit, deeds) if uses[group] > ceilings[group]]


def breaks(limit, deeds):
    """Return the list of the numbers of the deeds at which the limit is broken, ascending."""
    found = [number for number, load in loads(limit, deeds) if is_too_much(limit, load)]
    if limit[1] == "pool":
        return sorted(set(found + above_ceilings(limit, deeds)))
    return found


def faults(book, deeds):
    """Return the list of the tuples of a deed's number and the name of a limit that is broken at it, ascending."""
    return sorted([(number, limit[0]) for limit in book.limits for number in breaks(limit, deeds)])


def keeps(book, deeds):
    """Return True if no limit is broken at any of the deeds, otherwise False."""
    return not faults(book, deeds)


def would_break(book, deeds, request, moment):
    """Return the list of the names of the limits that would break with the request, in ascending order."""
    key, group, cost = request
    more = deeds + [("let", key, group, cost, moment)]
    return [limit[0] for limit in book.limits_for(group) if len(deeds) in breaks(limit, more)]


def is_earliest(book, deeds, request, moment, earliest):
    """Tell whether this is the least moment from the given one on at which no limit would break, or None for never."""
    if earliest is None:
        return would_break(book, deeds, request, moment + FAR) != []
    if earliest < moment or would_break(book, deeds, request, earliest):
        return False
    # What would not break at some moment does not break later, so that the moment ahead speaks for all before.
    return earliest == moment or would_break(book, deeds, request, earliest - 1) != []


def is_right(book, deeds, request, answer):
    """Return True if the answer is right for the request behind the deeds, otherwise False."""
    moment = answer.moment
    if answer.key != request[0] or answer.lacking != tuple(would_break(book, deeds, request, moment)):
        return False
    return is_earliest(book, deeds, request, moment, answer.earliest)
