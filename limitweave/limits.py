"""The meters of all limits but pools: what matters of a row of entries under one limit.

The moments of the calls of a meter never fall, and a request is told as let in only if there is room for it.
Besides the methods of the interface, each meter has `resume(state, moment)`, by which a new meter takes over a state.
"""

from limitweave.books import looks_at


class WindowMeter:
    """The meter of a limit with the word "window"."""

    def __init__(self, limit):
        self.limit = limit
        # Tuples of a moment and the sum of the costs at it, ascending; the first ones may lie ahead of the window.
        self._sums = []
        self._total = 0

    def room(self, moment, group, cost):
        """Return True if there is room for the request at the moment, otherwise False."""
        return self.earliest(moment, group, cost) == moment

    def earliest(self, moment, group, cost):
        """Return the least moment from this one on at which there is room, or None."""
        if not looks_at(self.limit, group):
            return moment
        most, length = self.limit[3]
        if cost > most:
            return None
        soonest = moment
        total = self._total
        for then, costs in self._sums:
            if total + cost <= most:
                break
            total -= costs
            soonest = max(soonest, then + length)
        return soonest

    def let(self, moment, group, cost, key):
        """Take note of a request that was let in."""
        if not looks_at(self.limit, group):
            return
        self._drop_passed(moment)
        self._total += cost
        if self._sums and self._sums[-1][0] == moment:
            cost += self._sums.pop()[1]
        self._sums.append((moment, cost))

    def _drop_passed(self, moment):
        """Drop the sums that lie ahead of the window that ends at the moment."""
        first = moment - self.limit[3][1] + 1
        passed = 0
        for then, costs in self._sums:
            if then >= first:
                break
            passed += 1
            self._total -= costs
        del self._sums[:passed]

    def released(self, key, moment):
        """Return False: a window counts what was let in, released or not."""
        return False

    def state_of(self, moment):
        """Return the tuples of the moments in the window and the sums of their costs, ascending."""
        first = moment - self.limit[3][1] + 1
        return tuple([(then, costs) for then, costs in self._sums if then >= first])

    def resume(self, state, moment):
        """Take over the state at the moment."""
        self._sums = list(state)
        self._total = sum([costs for then, costs in state])

    def twin(self):
        """Return another meter in the same state."""
        other = WindowMeter(self.limit)
        other._sums = list(self._sums)
        other._total = self._total
        return other


class SpanMeter:
    """The meter of a limit with the word "span"."""

    def __init__(self, limit):
        self.limit = limit
        self._span = 0
        self._used = 0

    def _used_in(self, span):
        """Return the sum of the costs in a span that is not less than the last one."""
        return self._used if span == self._span else 0

    def room(self, moment, group, cost):
        """Return True if there is room for the request at the moment, otherwise False."""
        return self.earliest(moment, group, cost) == moment

    def earliest(self, moment, group, cost):
        """Return the least moment from this one on at which there is room, or None."""
        if not looks_at(self.limit, group):
            return moment
        most, length = self.limit[3]
        if cost > most:
            return None
        span = moment // length
        return moment if self._used_in(span) + cost <= most else (span + 1) * length

    def let(self, moment, group, cost, key):
        """Take note of a request that was let in."""
        if looks_at(self.limit, group):
            span = moment // self.limit[3][1]
            self._used = self._used_in(span) + cost
            self._span = span

    def released(self, key, moment):
        """Return False: a span counts what was let in, released or not."""
        return False

    def state_of(self, moment):
        """Return the number of the span of the moment and the sum of the costs in it, if there are any."""
        span = moment // self.limit[3][1]
        used = self._used_in(span)
        return (span, used) if used > 0 else ()

    def resume(self, state, moment):
        """Take over the state at the moment."""
        if state:
            self._span, self._used = state

    def twin(self):
        """Return another meter in the same state."""
        other = SpanMeter(self.limit)
        other._span = self._span
        other._used = self._used
        return other


class BucketMeter:
    """The meter of a limit with the word "bucket"."""

    def __init__(self, limit):
        self.limit = limit
        # From this moment on nothing is missing. It tells what is missing at each moment, less by 1 with each.
        self._whole = 0

    def room(self, moment, group, cost):
        """Return True if there is room for the request at the moment, otherwise False."""
        return self.earliest(moment, group, cost) == moment

    def earliest(self, moment, group, cost):
        """Return the least moment from this one on at which there is room, or None."""
        if not looks_at(self.limit, group):
            return moment
        size, every = self.limit[3]
        if cost > size:
            return None
        return max(moment, self._whole - every * (size - cost))

    def let(self, moment, group, cost, key):
        """Take note of a request that was let in."""
        if looks_at(self.limit, group):
            self._whole = max(moment, self._whole) + self.limit[3][1] * cost

    def released(self, key, moment):
        """Return False: a bucket counts what was let in, released or not."""
        return False

    def state_of(self, moment):
        """Return what is missing at the moment, if there is anything."""
        return (self._whole - moment,) if self._whole > moment else ()

    def resume(self, state, moment):
        """Take over the state at the moment."""
        self._whole = moment + sum(state)

    def twin(self):
        """Return another meter in the same state."""
        other = BucketMeter(self.limit)
        other._whole = self._whole
        return other


class GapMeter:
    """The meter of a limit with the word "gap"."""

    def __init__(self, limit):
        self.limit = limit
        self._last = None

    def room(self, moment, group, cost):
        """Return True if there is room for the request at the moment, otherwise False."""
        return self.earliest(moment, group, cost) == moment

    def earliest(self, moment, group, cost):
        """Return the least moment from this one on at which there is room."""
        if self._last is None or not looks_at(self.limit, group):
            return moment
        return max(moment, self._last + self.limit[3][0])

    def let(self, moment, group, cost, key):
        """Take note of a request that was let in."""
        if looks_at(self.limit, group):
            self._last = moment

    def released(self, key, moment):
        """Return False: a gap is kept from what was let in, released or not."""
        return False

    def state_of(self, moment):
        """Return the moment of the last request that was let in, if there still has to be a distance."""
        if self._last is None or self._last + self.limit[3][0] <= moment:
            return ()
        return (self._last,)

    def resume(self, state, moment):
        """Take over the state at the moment."""
        if state:
            self._last = state[0]

    def twin(self):
        """Return another meter in the same state."""
        other = GapMeter(self.limit)
        other._last = self._last
        return other


class HeldMeter:
    """The meter of a limit with the word "held"."""

    def __init__(self, limit):
        self.limit = limit
        # The costs of the keys that are let in and not released.
        self._costs = {}
        self._total = 0

    def room(self, moment, group, cost):
        """Return True if there is room for the request at the moment, otherwise False."""
        return not looks_at(self.limit, group) or self._total + cost <= self.limit[3][0]

    def earliest(self, moment, group, cost):
        """Return the moment if there is room, otherwise None: waiting makes no room here."""
        return moment if self.room(moment, group, cost) else None

    def let(self, moment, group, cost, key):
        """Take note of a request that was let in."""
        if looks_at(self.limit, group):
            self._costs[key] = cost
            self._total += cost

    def released(self, key, moment):
        """Give back what the key holds. Return True if it held something, otherwise False."""
        if key not in self._costs:
            return False
        self._total -= self._costs.pop(key)
        return True

    def state_of(self, moment):
        """Return the tuples of the keys that hold something and their costs, ascending."""
        return tuple(sorted([(key, cost) for key, cost in self._costs.items()]))

    def resume(self, state, moment):
        """Take over the state at the moment."""
        for key, cost in state:
            self._costs[key] = cost
            self._total += cost

    def twin(self):
        """Return another meter in the same state."""
        other = HeldMeter(self.limit)
        other._costs = dict(self._costs)
        other._total = self._total
        return other
