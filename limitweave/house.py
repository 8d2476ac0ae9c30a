"""Houses of a chain, each of which keeps a journal of entries and views, and handles letters."""

from limitweave.bodies import view_body
from limitweave.chain import ahead_of, behind, is_head, is_last
from limitweave.journal import recovered
from limitweave.letters import WEAVE, told_body
from limitweave.records import record_text
from limitweave.replays import give, keeper_of


def first_text(view, due):
    """Return the text of the journal of a house that has just this view."""
    number, houses = view
    return record_text(0, view_body((number, due, houses)))


class House:
    """A standing house. Its row, its view and its due are those of its journal, which has no snapshots."""

    def __init__(self, name, book, text):
        self.name = name
        self.view = None
        self.due = None
        self._journal = recovered(text)
        self._keeper = keeper_of(book, self._journal.entries())
        last = self._journal.last_view()
        if last is not None:
            number, self.due, houses = last
            self.view = (number, houses)

    def row(self):
        """Return the list of the entries of the house."""
        return self._journal.entries()

    def journal_text(self):
        """Return the text of the journal of the house."""
        return self._journal.text()

    def is_full(self):
        """Return True if the house knows its due and has at least so many entries, otherwise False."""
        return self.due is not None and len(self.row()) >= self.due

    def handle(self, letter, moment):
        """Handle a letter. Return the list of the receivers, views and bodies of the letters that the house sends."""
        if self.view is None:
            return []
        learns = letter.view is not None and letter.view[0] > self.view[0]
        if learns:
            self._write_view(letter.view, self.due)
        if letter.view is not None and letter.view[0] < self.view[0] or not self._is_in_view():
            return []
        letters = self._obey(letter, moment)
        if learns or self._misses(letter):
            letters.extend(self._ask_for_entries())
        return letters

    def wake(self):
        """Wake the house. Return the list of the receivers, views and bodies of the letters that it sends."""
        if not self._is_in_view():
            return []
        return self._ask_for_entries() + (self._to_weave([("full",)]) if self.is_full() else [])

    def _is_in_view(self):
        """Tell whether the house has a view and is in it."""
        return self.view is not None and self.name in self.view[1]

    def _ahead(self):
        """Return the name of the house ahead of this one, or None."""
        return ahead_of(self.view, self.name)

    def _behind(self):
        """Return the name of the house behind this one, or None."""
        return behind(self.view, self.name)

    def _write_view(self, view, due):
        """Write a view with a due, which are those of the house from then on."""
        number, houses = view
        self._journal.write_view((number, due, houses))
        self.view = view
        self.due = due

    def _to_weave(self, bodies):
        """Return the list of the letters with these bodies to the weave."""
        return [(WEAVE, self.view, body) for body in bodies]

    def _ask_for_entries(self):
        """Return the list of the letter that tells the house ahead how many entries this one has, if there is one."""
        ahead = self._ahead()
        return [] if ahead is None else [(ahead, self.view, ("have", len(self.row())))]

    def _misses(self, letter):
        """Tell whether the letter has entries of the house ahead with a gap between them and those of this house."""
        return letter.body[0] == "entries" and letter.sender == self._ahead() and letter.body[1] > len(self.row())

    def _obey(self, letter, moment):
        """Do what the body of the letter asks. Return the list of the letters that come of it."""
        word = letter.body[0]
        if word == "ask" or word == "release":
            return self._decide(letter.body, moment) if is_head(self.view, self.name) else []
        if word == "entries" and letter.sender == self._ahead():
            return self._take(letter.body)
        if word == "again" and letter.sender == self._ahead():
            return self._tell_again(letter.body[1])
        if word == "have" and letter.sender == self._behind() and letter.body[1] <= len(self.row()):
            return [self._entries_from(letter.body[1])]
        return []

    def _decide(self, body, moment):
        """Write the entry for which the body asks, or tell its key again. Return the list of the letters."""
        key = body[1]
        is_known = self._keeper.knows(key)
        if body[0] == "ask" and not is_known or body[0] == "release" and is_known and self._keeper.holds(key):
            last = self._journal.last_moment()
            return self._add([body + (moment if last is None else max(moment, last),)])
        return self._tell_again(key)

    def _take(self, body):
        """Take the due, if it was not known, and the new entries of the house ahead. Return the list of the letters."""
        _, first, entries, due = body
        was_full = self.is_full()
        if self.due is None and due is not None:
            self._write_view(self.view, due)
        many = len(self.row())
        letters = self._add(entries[many - first:]) if first <= many else []
        return letters if was_full or not self.is_full() else letters + self._to_weave([("full",)])

    def _add(self, entries):
        """Write new entries, and pass them on, if there are any. Return the list of the letters."""
        first = len(self.row())
        for entry in entries:
            self._journal.write(entry)
            give(self._keeper, entry)
        if len(entries) == 0:
            return []
        if is_last(self.view, self.name):
            return self._to_weave([self._news_of(entry) for entry in entries])
        return [self._entries_from(first)]

    def _news_of(self, entry):
        """Return the body that tells the weave of a new entry."""
        if entry[0] == "release":
            return ("released", entry[1])
        return told_body(self._keeper.answer_of(entry[1]))

    def _entries_from(self, first):
        """Return the letter to the house behind with all entries from a place on."""
        row = self.row()
        due = None if self.due is None else max(self.due, len(row))
        return (self._behind(), self.view, ("entries", first, tuple(row[first:]), due))

    def _tell_again(self, key):
        """Tell a key again, if it is known. Return the list of the letters."""
        if not self._keeper.knows(key):
            return []
        if not is_last(self.view, self.name):
            return [(self._behind(), self.view, ("again", key))]
        answer = self._keeper.answer_of(key)
        is_released = answer.is_let and not self._keeper.holds(key)
        return self._to_weave([told_body(answer)] + ([("released", key)] if is_released else []))
