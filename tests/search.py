"""A search over all rows for two limits with small numbers: whether some row keeps the one and breaks the other.

A limit is written here once more as a small machine (from point 8), whose states have all that matters of a row, so
that the search goes over states of both limits instead of rows. The costs are those that are told.
"""


def sees(limit, group):
    if limit[1] == "pool":
        return any(share[0] == group for share in limit[3][1])
    return limit[2] == () or group in limit[2]


def start(limit):
    word, numbers = limit[1], limit[3]
    if word == "window":
        return (0,) * numbers[1]
    if word == "span":
        return (0, 0)
    if word == "bucket":
        return 0
    if word == "gap":
        return numbers[0]
    return None


def fits(limit, state, held, group, cost):
    """Whether there is room for the request; `held` is the tuple of all groups and costs that are not released."""
    word, numbers = limit[1], limit[3]
    if not sees(limit, group):
        return True
    if word == "window":
        return sum(state) + cost <= numbers[0]
    if word == "span":
        return state[1] + cost <= numbers[0]
    if word == "bucket":
        return state + numbers[1] * cost <= numbers[0] * numbers[1]
    if word == "gap":
        return state >= numbers[0]
    if word == "held":
        return sum(c for g, c in held if sees(limit, g)) + cost <= numbers[0]
    beyond = 0
    for name, own, ceiling in numbers[1]:
        use = sum(c for g, c in held + ((group, cost),) if g == name)
        if use > ceiling:
            return False
        beyond += max(0, use - own)
    return beyond <= numbers[0] - sum(own for name, own, ceiling in numbers[1])


def let(limit, state, group, cost):
    word, numbers = limit[1], limit[3]
    if not sees(limit, group):
        return state
    if word == "window":
        return state[:-1] + (state[-1] + cost,)
    if word == "span":
        return (state[0], state[1] + cost)
    if word == "bucket":
        return state + numbers[1] * cost
    return 0 if word == "gap" else None


def wait(limit, state):
    word, numbers = limit[1], limit[3]
    if word == "window":
        return state[1:] + (0,)
    if word == "span":
        return (state[0] + 1, state[1]) if state[0] + 1 < numbers[1] else (0, 0)
    if word == "bucket":
        return max(0, state - 1)
    return min(numbers[0], state + 1) if word == "gap" else None


def is_parted(limit, other, groups, costs):
    """Whether there is a row of requests of these groups and costs that keeps the other limit and breaks the limit."""
    counted = [group for group in groups if any(x[1] in ("held", "pool") and sees(x, group) for x in (limit, other))]
    first = (start(limit), start(other), ())
    found = {first}
    todo = [first]
    while todo:
        one, two, held = todo.pop()
        nexts = [(wait(limit, one), wait(other, two), held)]
        nexts += [(one, two, held[:at] + held[at + 1:]) for at in range(len(held))]
        for group in groups:
            for cost in costs:
                if fits(other, two, held, group, cost):
                    if not fits(limit, one, held, group, cost):
                        return True
                    more = tuple(sorted(held + ((group, cost),))) if group in counted else held
                    nexts.append((let(limit, one, group, cost), let(other, two, group, cost), more))
        for state in nexts:
            if state not in found:
                found.add(state)
                todo.append(state)
    return False
