"""Plans of parting rows: rows that one limit lets in, up to a last request that breaks the other one.

A plan is made by counting only, so that there is one also if the row would be far too long to be written.
"""

from limitweave.books import GREATEST_COST, GREATEST_MOMENT, HOLDING, MOST_GROUPS, groups_of, looks_at
from limitweave.errors import TooLarge
from limitweave.sharing import capacity, uses_beyond
from limitweave.supply import first_moment, first_multiple, least_distance, next_cost, portion_of, reached_at

MOST_ENTRIES = 10000


class Row:
    """A row of entries that is written, which has not more entries and no later moments than it may."""

    def __init__(self):
        self.written = []

    def ask(self, group, cost, moment):
        """Put a request behind the row. Return its key."""
        key = f"k{len(self.written)}"
        self._put(("ask", key, group, cost, moment))
        return key

    def release(self, key, moment):
        """Put a release behind the row."""
        self._put(("release", key, moment))

    def _put(self, entry):
        """Put an entry behind the row."""
        if len(self.written) >= MOST_ENTRIES or entry[-1] > GREATEST_MOMENT:
            raise TooLarge("the row would be too long or too late")
        self.written.append(entry)


class Heap:
    """The plan to let in some uses at one moment and to release nothing."""

    def __init__(self, uses, piece):
        self.uses = uses
        self.piece = piece

    def fill(self, row):
        """Write the entries of the plan."""
        for group, use in self.uses:
            for start in range(0, use, self.piece):
                row.ask(group, min(self.piece, use - start), 0)


class Turnover:
    """The plan to let in a total at one moment, and to release what would have no room otherwise."""

    def __init__(self, group, total, piece, bound):
        self.group = group
        self.total = total
        self.piece = piece
        self.bound = bound

    def fill(self, row):
        """Write the entries of the plan."""
        whole, rest = divmod(self.total, self.piece)
        # The rest comes first: if it fits beside the whole pieces, it stays, so that the releases are few.
        costs = [rest] * min(1, rest) + [self.piece] * min(whole, MOST_ENTRIES)
        left = self.bound
        held = []
        for cost in costs:
            while left < cost:
                key, back = held.pop()
                row.release(key, 0)
                left += back
            held.append((row.ask(self.group, cost, 0), cost))
            left -= cost


class Flow:
    """The plan to let in a total under a limit that makes room in time, as soon as possible from a moment on."""

    def __init__(self, limit, group, total, piece, first):
        self.limit = limit
        self.group = group
        self.total = total
        self.piece = piece
        self.first = first

    def fill(self, row):
        """Write the entries of the plan."""
        reached = 0
        while reached < self.total:
            cost = next_cost(self.limit, self.total, self.piece, reached)
            reached += cost
            row.ask(self.group, cost, reached_at(self.limit, reached, self.piece, self.first))


def groups_for(limit, other):
    """Return a tuple of groups that the limit looks at, one of them beyond the other limit, if there is any such."""
    if groups_of(limit) or limit[1] == "pool":
        return groups_of(limit)
    taken = groups_of(other)
    return tuple([f"g{number}" for number in range(MOST_GROUPS + 1) if f"g{number}" not in taken][:1])


def piece_of(limit):
    """Return the greatest cost of the requests by which the limit is broken. A gap only counts how many they are."""
    return 1 if limit[1] == "gap" else GREATEST_COST


def least_break(limit, group):
    """Return the least total that breaks the limit if requests of one group come at one moment."""
    if limit[1] in HOLDING:
        return capacity(limit, group) + 1
    return 2 if limit[1] == "gap" else limit[3][0] + 1


def least_overflow(limit, other):
    """Return the least total that overflows a bucket as soon as the other limit lets it in, or None."""
    size, every = limit[3]
    at_once = portion_of(other, GREATEST_COST)
    if at_once > size:
        return size + 1
    step = other[3][-1]
    if other[1] == "bucket":
        return None if every <= step else (size * every - at_once * step) // (every - step) + 1
    # Of a span, the first two portions stand beside one another, and all further ones a step apart.
    base, distance = (2, 1) if other[1] == "span" else (1, 0)
    lacking = size * every - (every * at_once * base - distance)
    gain = every * at_once - step
    if lacking >= 0 and gain <= 0:
        return None
    further = lacking // gain + 1 if lacking >= 0 else 0
    return size + (distance + further * step) // every + 1


def span_start(limit, other, total):
    """Return the first moment of the first span of the limit in which the other one, a span too, lets in the total.

    The total can be reached within as many moments as a span of the limit has. Return None if it is in no such span.
    """
    length = limit[3][1]
    step = other[3][1]
    distance = least_distance(other, total, GREATEST_COST)
    # How far behind the beginning of a span of the other one this span has to begin, at the least. Less than a step.
    behind = max(0, distance + step - length) if distance > 0 else 0
    turns = first_multiple(length, step, behind, step - 1)
    return None if turns is None else turns * length


def flow_total(limit, other, group):
    """Return the least total that breaks the limit as soon as the other one lets it in, or None."""
    if limit[1] == "bucket":
        return least_overflow(limit, other)
    total = least_break(limit, group)
    if limit[1] in HOLDING or least_distance(other, total, piece_of(limit)) < limit[3][-1]:
        return total
    return None


def flow_plan(limit, other, groups):
    """Return a plan for another limit that makes room in time, and that looks at all the groups, or None."""
    if portion_of(other, 1) == 0:
        return None
    group = min(groups, key=lambda name: least_break(limit, name))
    total = flow_total(limit, other, group)
    if total is None:
        return None
    first = first_moment(other)
    if limit[1] == "span":
        first = span_start(limit, other, total) if other[1] == "span" else 0
    return None if first is None else Flow(other, group, total, piece_of(limit), first)


def turnover_plan(limit, other, groups):
    """Return a plan for a limit that counts what was let in, released or not, beside one that counts what is held."""
    group = max(groups, key=lambda name: capacity(other, name))
    bound = capacity(other, group)
    if bound == 0:
        return None
    return Turnover(group, least_break(limit, group), min(bound, piece_of(limit)), bound)


def plan_for(limit, other):
    """Return a plan of a parting row of the two limits, or None if there is none."""
    groups = groups_for(limit, other)
    piece = piece_of(limit)
    for group in groups:
        if not looks_at(other, group):
            return Heap([(group, least_break(limit, group))], piece)
    if other[1] not in HOLDING:
        return flow_plan(limit, other, groups)
    if limit[1] not in HOLDING:
        return turnover_plan(limit, other, groups)
    uses = uses_beyond(limit, other, groups)
    return None if uses is None else Heap(uses, piece)


def in_whole_pieces(limit):
    """Return a limit that lets in no more than this one, and that no small rest is asked for at each moment."""
    name, word, groups, numbers = limit
    if word not in ("window", "span") or numbers[0] < GREATEST_COST:
        return limit
    return (name, word, groups, (numbers[0] - numbers[0] % GREATEST_COST, numbers[1]))


def row_of_plan(plan):
    """Return the list of the entries of the plan."""
    row = Row()
    plan.fill(row)
    return row.written
