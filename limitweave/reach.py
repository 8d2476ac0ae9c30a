"""How much a limit lets in within some moments."""

from limitweave.books import GREATEST_COST, HOLDING
from limitweave.errors import TooLarge

MOST_ROW_COST = 10000
A_GROUP = "any"


def parts_of(moments, length):
    """Return how many parts of at most so many moments there are in some moments one after another."""
    return (moments + length - 1) // length


def spans_touched(moments, length):
    """Return the greatest number of spans that so many moments one after another can touch."""
    return 1 + parts_of(moments - 1, length)


def can_hold(limit):
    """Tell whether a limit with the word "held" or "pool" lets in any request at all."""
    if limit[1] == "held":
        return limit[3][0] > 0
    most, shares = limit[3]
    common = most - sum([own for group, own, ceiling in shares])
    return any([ceiling > 0 and (own > 0 or common > 0) for group, own, ceiling in shares])


def most_within(limit, moments):
    """Return the greatest cost within so many moments, or None if there is no greatest one."""
    word = limit[1]
    if word in HOLDING:
        return None if can_hold(limit) else 0
    if word == "gap":
        return GREATEST_COST * parts_of(moments, limit[3][0])
    most, step = limit[3]
    if word == "window":
        return most * parts_of(moments, step)
    if word == "span":
        return most * spans_touched(moments, step)
    return most + (moments - 1) // step if most > 0 else 0


def fullest_sums(limit, moments):
    """Return the tuples of a moment and the sum of the costs there, for a greatest cost above 0."""
    word = limit[1]
    if word == "gap":
        ticks = limit[3][0]
        return [(part * ticks, GREATEST_COST) for part in range(parts_of(moments, ticks))]
    most, step = limit[3]
    if word == "window":
        return [(part * step, most) for part in range(parts_of(moments, step))]
    if word == "span":
        # The first span gives its last moment only, so that the later ones begin as soon as they can.
        later = [(span * step, most) for span in range(1, spans_touched(moments, step))]
        return [(step - 1, most)] + later
    return [(0, most)] + [(back * step, 1) for back in range(1, (moments - 1) // step + 1)]


def split_cost(total):
    """Return the list of the costs of requests that make the sum."""
    whole, rest = divmod(total, GREATEST_COST)
    costs = [GREATEST_COST] * whole
    return costs + [rest] if rest > 0 else costs


def fullest_row(limit, moments):
    """Return a row of requests that keeps the limit and reaches the greatest cost within so many moments."""
    greatest = most_within(limit, moments)
    if greatest is None or greatest > MOST_ROW_COST:
        raise TooLarge(f"the greatest cost is {greatest}")
    if greatest == 0:
        return []
    group = limit[2][0] if limit[2] else A_GROUP
    row = []
    for moment, total in fullest_sums(limit, moments):
        for cost in split_cost(total):
            row.append(("ask", f"k{len(row)}", group, cost, moment))
    return row
