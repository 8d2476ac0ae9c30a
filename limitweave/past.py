"""What the records of a journal tell up to some place, and what may stand behind them."""

from limitweave.books import goes_on


def is_descending(moments):
    """Tell whether some moment is less than the one before it."""
    return any([later < earlier for earlier, later in zip(moments, moments[1:])])


def can_begin(head, rows):
    """Tell whether a snapshot with this head and these rows can stand at the beginning of a journal."""
    many, entries, moment, _ = head
    if many == 0 or entries == 0 or moment is None:
        return many == 0 and entries == 0 and moment is None
    moments = [row[3] for row in rows]
    if many > entries or is_descending(moments + [moment]):
        return False
    return len(set([row[0] for row in rows])) == many


class Past:
    """What stands ahead of the next record: how many entries, the moment and the view of the last, and all keys."""

    def __init__(self):
        self.is_blank = True
        self.dropped = 0
        self.many_entries = 0
        self.moment = None
        self.view = None
        # The request and the moment of each key, in the order in which the keys were asked.
        self._asked = {}
        # What the last snapshot said of its keys: whether they were let in.
        self._was_let = {}
        # The keys that an entry releases, or that were told to be back.
        self._released = {}

    def knows(self, key):
        """Tell whether the key was asked."""
        return key in self._asked

    def fits(self, word, told):
        """Tell whether an entry, a view or a snapshot, which is right by itself, may stand behind what is there."""
        if word == "entry":
            return goes_on(told, 0 if self.moment is None else self.moment, self._asked)
        if word == "view":
            return self._fits_view(told)
        head, rows = told
        return can_begin(head, rows) if self.is_blank else self._is_told_by(head, rows)

    def take(self, word, told):
        """Take note of an entry, a view or a snapshot that fits."""
        if word == "entry":
            self._take_entry(told)
        elif word == "view":
            self.view = told
        else:
            self._take_snapshot(told[0], told[1])
        self.is_blank = False

    def _fits_view(self, view):
        """Tell whether the view may follow the last one."""
        if self.view is None:
            return True
        number, due, houses = self.view
        if due is not None and view[1] != due:
            return False
        return view[0] > number or view[0] == number and view[2] == houses

    def _is_told_by(self, head, rows):
        """Tell whether a snapshot tells what stands ahead of it."""
        if head != (len(self._asked), self.many_entries, self.moment, self.view):
            return False
        return [row[:4] for row in rows] == list(self._asked.values()) and all([self._fits_row(row) for row in rows])

    def _fits_row(self, row):
        """Tell whether what a row says of its known key can be so, from what is known of this key."""
        key, is_let = row[0], row[4] == ()
        if self._was_let.get(key, is_let) != is_let:
            return False
        return not is_let or row[6] == (key in self._released)

    def _take_entry(self, entry):
        """Take note of an entry."""
        key, moment = entry[1], entry[-1]
        if entry[0] == "ask":
            self._asked[key] = entry[1:]
        else:
            self._released[key] = True
        self.moment = moment
        self.many_entries += 1

    def _take_snapshot(self, head, rows):
        """Take note of a snapshot. One at the beginning tells of entries that were dropped."""
        _, self.many_entries, self.moment, self.view = head
        if self.is_blank:
            self.dropped = self.many_entries
        for row in rows:
            self._asked[row[0]] = row[:4]
            self._was_let[row[0]] = row[4] == ()
            if row[6]:
                self._released[row[0]] = True
