"""How soon a limit with the word "window", "span", "bucket" or "gap" lets in a total, and by which requests.

What is told here goes the other way round than in `reach`. A *piece* is the greatest cost that a request may have.
"""

from limitweave.reach import parts_of


def portion_of(limit, piece):
    """Return the greatest cost that the limit lets in at one moment."""
    return piece if limit[1] == "gap" else limit[3][0]


def first_moment(limit):
    """Return a moment, such that a row that begins at it lets in what follows as soon as possible."""
    return limit[3][1] - 1 if limit[1] == "span" else 0


def reached_at(limit, total, piece, first):
    """Return the least moment at which the total can be reached by a row that begins at the moment `first`."""
    if limit[1] == "bucket":
        size, every = limit[3]
        return first + max(0, (total - size) * every)
    step = limit[3][-1]
    further = parts_of(total, portion_of(limit, piece)) - 1
    if limit[1] == "span":
        return max(first, (first // step + further) * step)
    return first + further * step


def least_distance(limit, total, piece):
    """Return the least distance of the last moment from the first one of a row that reaches the total."""
    first = first_moment(limit)
    return reached_at(limit, total, piece, first) - first


def next_cost(limit, total, piece, reached):
    """Return the cost of the next request of a row that has reached a sum and goes on to the total."""
    portion = portion_of(limit, piece)
    if limit[1] != "bucket":
        portion -= reached % portion
    return min(piece, portion, total - reached)


def first_multiple(step, modulus, low, high):
    """Return the least k from 0 on such that k * step, modulo the modulus, is from low to high, or None.

    It holds that 0 <= low <= high < modulus. The numbers become smaller as in Euclid's algorithm.
    """
    step = step % modulus
    if low == 0:
        return 0
    if step == 0:
        return None
    if 2 * step > modulus:
        return first_multiple(modulus - step, modulus, modulus - high, modulus - low)
    around = parts_of(low, step)
    if around * step <= high:
        return around
    # No multiple lies between the two, so that both leave the same number of whole steps.
    turns = first_multiple(modulus, step, -high % step, -low % step)
    return None if turns is None else parts_of(low + turns * modulus, step)
