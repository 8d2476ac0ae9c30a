"""Keepers, which decide the requests of a row of entries one after the other, and their answers."""

from limitweave.books import check_moment, check_request
from limitweave.errors import EarlierMoment, KeyKnown, TooLarge, UnknownKey
from limitweave.meters import meter_for

MOST_REQUESTS = 2000


class Answer:
    """The answer to a request. It is let in exactly if no limit is lacking."""

    def __init__(self, key, moment, lacking, earliest):
        self.key = key
        self.moment = moment
        self.lacking = lacking
        self.earliest = earliest
        self.is_let = len(lacking) == 0

    def parts(self):
        """Return the tuple of the key, the moment, the lacking and the earliest."""
        return (self.key, self.moment, self.lacking, self.earliest)


def answer_of_row(row):
    """Return the answer that was told of the request of a row of a keeper."""
    key, _, _, moment, lacking, earliest, _ = row
    return Answer(key, moment, lacking, earliest)


def latest(moments):
    """Return the greatest of some moments, or None if one of them is None, which stands for never."""
    return None if None in moments else max(moments)


class Keeper:
    """A book and what was decided by it of a row of entries. The moment is that of the last entry, or None."""

    def __init__(self, book):
        self.book = book
        self.moment = None
        # In the order of the book, so that the names of the limits ascend.
        self._meters = [meter_for(limit) for limit in book.limits]
        # The row of each key, in the order in which the keys were asked.
        self._rows = {}

    def ask(self, request, moment):
        """Decide the request, a tuple of a key, a group and a cost, and return the answer."""
        key, group, cost = request
        check_request(key, group, cost)
        check_moment(moment)
        if key in self._rows:
            raise KeyKnown(key)
        self._check_order(moment)
        if len(self._rows) >= MOST_REQUESTS:
            raise TooLarge(f"a keeper takes at most {MOST_REQUESTS} requests")
        moments = [meter.earliest(moment, group, cost) for meter in self._meters]
        lacking = tuple([meter.limit[0] for meter, soonest in zip(self._meters, moments) if soonest != moment])
        self._note((key, group, cost, moment, lacking, latest(moments), False))
        self.moment = moment
        return self.answer_of(key)

    def release(self, key, moment):
        """Give back what the key holds. Return True if this changed something besides the moment."""
        check_moment(moment)
        row = self._row_of(key)
        self._check_order(moment)
        self.moment = moment
        if not self.holds(key):
            return False
        self._rows[key] = row[:-1] + (True,)
        for meter in self._meters:
            meter.released(key, moment)
        return True

    def knows(self, key):
        """Return True if the key was asked, otherwise False."""
        return key in self._rows

    def answer_of(self, key):
        """Return the answer that was told of the key."""
        return answer_of_row(self._row_of(key))

    def holds(self, key):
        """Return True if the key was let in and is not released, otherwise False."""
        row = self._row_of(key)
        return row[4] == () and not row[6]

    def rows(self):
        """Return the list of the rows of the keeper, in the order in which the keys were asked."""
        return list(self._rows.values())

    def twin(self):
        """Return a keeper of the same book in the same state."""
        other = Keeper(self.book)
        other.moment = self.moment
        other._meters = [meter.twin() for meter in self._meters]
        other._rows = dict(self._rows)
        return other

    def _row_of(self, key):
        """Return the row of the key."""
        if key not in self._rows:
            raise UnknownKey(key)
        return self._rows[key]

    def _check_order(self, moment):
        """Raise EarlierMoment if the moment is less than that of the keeper."""
        if self.moment is not None and moment < self.moment:
            raise EarlierMoment(self.moment)

    def _note(self, row):
        """Take a row behind the others, and tell the meters of it."""
        key, group, cost, moment, lacking, _, is_released = row
        self._rows[key] = row
        if lacking:
            return
        for meter in self._meters:
            meter.let(moment, group, cost, key)
            if is_released:
                # When is not told, and makes no difference for what follows. So early it leaves room for all others.
                meter.released(key, moment)


def keeper_of_rows(book, moment, rows):
    """Return the keeper that has these rows and this moment, without deciding anything."""
    keeper = Keeper(book)
    for row in rows:
        keeper._note(row)
    keeper.moment = moment
    return keeper
