"""The desk, at which a book and a row of entries are changed step by step, and back again."""

from limitweave.errors import NothingToRedo, NothingToUndo
from limitweave.keeper import answer_of_row
from limitweave.ledger import Ledger


class Trial:
    """A block of changes at a desk. If an error leaves the block, the desk is again as it was ahead of it."""

    def __init__(self, desk):
        self._desk = desk
        self._now = None
        self._done = ()
        self._undone = ()

    def __enter__(self):
        """Keep what the desk is like, and return the desk."""
        self._now = self._desk._now
        self._done = self._desk._done
        self._undone = self._desk._undone
        return self._desk

    def __exit__(self, kind, value, trace):
        # What was decided stays in any case, and an error goes on, because nothing is returned.
        desk = self._desk
        if kind is not None:
            desk._now = self._now
            desk._done = self._done
            desk._undone = self._undone


class Desk:
    """A book and a row of entries, both of which change step by step."""

    def __init__(self, book):
        self._ledger = Ledger()
        # The book, and the number of the row in the ledger.
        self._now = (book, 0)
        # What was there ahead of each change, and behind each change that was taken back. The last one is at the end.
        self._done = ()
        self._undone = ()

    @property
    def decided(self):
        """The number of entries that the desk has decided so far."""
        return self._ledger.many

    def ask(self, key, group, cost, moment):
        """Put a request behind the row, and return the answer."""
        return answer_of_row(self._put(("ask", key, group, cost, moment)))

    def release(self, key, moment):
        """Put a release behind the row. Return True if it changes something besides the moment, otherwise False."""
        return self._put(("release", key, moment))

    def set_limit(self, limit):
        """Put a limit into the book, instead of the one with its name, if there is one."""
        self._take_book(self.book_now().with_limit(limit))

    def drop_limit(self, name):
        """Take the limit with the name out of the book."""
        self._take_book(self.book_now().without_limit(name))

    def book_now(self):
        """Return the present book."""
        return self._now[0]

    def entries_now(self):
        """Return the list of the entries of the row."""
        return self._ledger.row(self._now[1])

    def answers_now(self):
        """Return the list of the answers to the requests of the row, in order."""
        book, row = self._now
        return [answer_of_row(kept) for kept in self._ledger.keeper_rows(book, row)]

    def turned(self, book):
        """Return the list of the keys of the row that one of the present book and another one lets in."""
        present, row = self._now
        self._ledger.decide_row(book, row)
        kept = self._ledger.keeper_rows(present, row)
        others = self._ledger.keeper_rows(book, row)
        return [first[0] for first, second in zip(kept, others) if (first[4] == ()) != (second[4] == ())]

    def undo(self):
        """Take back the last change that has not been taken back."""
        if not self._done:
            raise NothingToUndo("there is no change to take back")
        self._undone = self._undone + (self._now,)
        self._now = self._done[-1]
        self._done = self._done[:-1]

    def redo(self):
        """Restore the change that was taken back last."""
        if not self._undone:
            raise NothingToRedo("there is no change to restore")
        self._done = self._done + (self._now,)
        self._now = self._undone[-1]
        self._undone = self._undone[:-1]

    def trial(self):
        """Return an object for a with statement, the block of which is undone if an error leaves it."""
        return Trial(self)

    def change_all(self, deeds):
        """Make the changes of a list, or none of them if one raises."""
        with self.trial():
            for deed in deeds:
                self._change(deed)

    def _change(self, deed):
        """Make the change that a tuple tells."""
        word = deed[0]
        if word == "ask":
            _, key, group, cost, moment = deed
            self.ask(key, group, cost, moment)
        elif word == "release":
            self.release(deed[1], deed[2])
        elif word == "limit":
            self.set_limit(deed[1])
        elif word == "drop":
            self.drop_limit(deed[1])
        else:
            self.change_all(deed[1])

    def _put(self, entry):
        """Put an entry behind the row. Return what it came to."""
        book, row = self._now
        longer = self._ledger.extended(book, row, entry)
        self._go_to(book, longer)
        return self._ledger.outcome(book, longer)

    def _take_book(self, book):
        """Let another book decide the row from then on."""
        row = self._now[1]
        self._ledger.decide_row(book, row)
        self._go_to(book, row)

    def _go_to(self, book, row):
        """Make a change, which discards what could have been restored."""
        self._done = self._done + (self._now,)
        self._undone = ()
        self._now = (book, row)
