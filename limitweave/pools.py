"""The meter of a pool, in which groups have shares of their own and borrow from what is common."""

from limitweave.books import looks_at


class PoolMeter:
    """The meter of a limit with the word "pool"."""

    def __init__(self, limit):
        self.limit = limit
        most, shares = limit[3]
        self._shares = {group: (own, ceiling) for group, own, ceiling in shares}
        self._common = most - sum([own for group, own, ceiling in shares])
        # The use of each group, and the groups and costs of the keys that are let in and not released.
        self._uses = {group: 0 for group, own, ceiling in shares}
        self._requests = {}
        self._borrowed = 0

    def _beyond(self, group, use):
        """Return what is borrowed if the group has this use."""
        return max(0, use - self._shares[group][0])

    def _change(self, group, cost):
        """Make the use of the group greater by the cost, or less if the cost is below 0."""
        use = self._uses[group]
        self._borrowed += self._beyond(group, use + cost) - self._beyond(group, use)
        self._uses[group] = use + cost

    def room(self, moment, group, cost):
        """Return True if there is room for the request at the moment, otherwise False."""
        if not looks_at(self.limit, group):
            return True
        use = self._uses[group]
        borrowed = self._borrowed + self._beyond(group, use + cost) - self._beyond(group, use)
        return use + cost <= self._shares[group][1] and borrowed <= self._common

    def earliest(self, moment, group, cost):
        """Return the moment if there is room, otherwise None: waiting makes no room here."""
        return moment if self.room(moment, group, cost) else None

    def let(self, moment, group, cost, key):
        """Take note of a request that was let in."""
        if looks_at(self.limit, group):
            self._requests[key] = (group, cost)
            self._change(group, cost)

    def released(self, key, moment):
        """Give back what the key holds. Return True if it held something, otherwise False."""
        if key not in self._requests:
            return False
        group, cost = self._requests.pop(key)
        self._change(group, -cost)
        return True

    def state_of(self, moment):
        """Return the tuples of the keys that hold something, their groups and costs, ascending."""
        return tuple(sorted([(key, group, cost) for key, (group, cost) in self._requests.items()]))

    def resume(self, state, moment):
        """Take over the state at the moment."""
        for key, group, cost in state:
            self.let(moment, group, cost, key)

    def twin(self):
        """Return another meter in the same state."""
        other = PoolMeter(self.limit)
        other._uses = dict(self._uses)
        other._requests = dict(self._requests)
        other._borrowed = self._borrowed
        return other
