"""What limits with the words "held" and "pool" let in at most at one moment, if nothing is released.

A limit that is held is taken for a pool, in which no group has a share of its own.
"""

from itertools import combinations


def common_of(limit):
    """Return what all groups together may use beyond their own shares."""
    if limit[1] == "held":
        return limit[3][0]
    most, shares = limit[3]
    return most - sum([own for group, own, ceiling in shares])


def share_of(limit, group):
    """Return the tuple of the own share and the ceiling of a group that the limit looks at."""
    if limit[1] == "held":
        return (0, limit[3][0])
    return [(own, ceiling) for name, own, ceiling in limit[3][1] if name == group][0]


def capacity(limit, group):
    """Return the greatest use of a group that the limit looks at, if no other group uses anything."""
    own, ceiling = share_of(limit, group)
    return min(ceiling, own + common_of(limit))


def borrower(limit, other, group):
    """Return what the two limits say of a group that is to use more than its own share under the limit.

    It is a tuple of the group, the own share, what the other limit lets it use beyond that share without borrowing,
    what it has to borrow there to use its share, and what it can borrow there on top of that.
    """
    own = share_of(limit, group)[0]
    other_own, other_ceiling = share_of(other, group)
    return (group, own, max(0, other_own - own), max(0, own - other_own), other_ceiling - max(own, other_own))


def uses_of(chosen, need, common):
    """Return the tuples of group and use by which the borrowers need so much, or None if they cannot."""
    left = common - sum([entry for group, own, free, entry, more in chosen])
    if left < 0:
        return None
    uses = []
    for group, own, free, _, more in chosen:
        beyond = min(need, free + min(more, left))
        left -= max(0, beyond - free)
        need -= beyond
        if beyond > 0:
            uses.append((group, own + beyond))
    return uses if need == 0 else None


def uses_beyond(limit, other, groups):
    """Return tuples of group and use that the other limit lets in, but not the limit, for which they are just too much.

    Both limits look at all the groups. Return None if there are no such uses.
    """
    for group in groups:
        if capacity(limit, group) < capacity(other, group):
            return [(group, capacity(limit, group) + 1)]
    lines = [borrower(limit, other, group) for group in groups]
    able = [line for line in lines if line[4] >= 0]
    for many in range(1, len(able) + 1):
        for chosen in combinations(able, many):
            uses = uses_of(chosen, common_of(limit) + 1, common_of(other))
            if uses is not None:
                return uses
    return None
