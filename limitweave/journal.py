"""Journals: rows of records with entries, views and snapshots, from which a torn or damaged text is recovered."""

from limitweave.bodies import head_body, is_view, read_body, row_body, view_body
from limitweave.errors import InvalidEntry, InvalidJournal
from limitweave.notation import format_entry
from limitweave.past import Past
from limitweave.records import GREATEST_RECORD, read_record, record_text, whole_records


def read_unit(records, at):
    """Return what begins at a place of some records: a word, what is told, and how many records it has, or None.

    The word is "entry", "view" or "keep". A snapshot, which is told by its head and its rows, has all its rows.
    """
    word, told = read_body(records[at][1]) or ("none", None)
    if word == "entry" or word == "view":
        return (word, told, 1)
    if word != "keep":
        return None
    end = at + 1 + told[0]
    rows = [read_body(body) for number, body in records[at + 1:end]]
    if len(rows) < told[0] or not all([row is not None and row[0] == "key" for row in rows]):
        return None
    return (word, (told, [row[1] for row in rows]), 1 + told[0])


class Journal:
    """A row of records whose numbers ascend by 1, which keep the rules of a journal."""

    def __init__(self):
        self._first = 0
        self._bodies = []
        self._entries = []
        self._past = Past()
        # The lines of the first records, each with its newline. They are made as soon as a text is asked for.
        self._lines = []
        # The place of the head of the last snapshot among the bodies, or 0.
        self._last_head = 0

    def write(self, entry):
        """Put an entry behind the last record. Return the number of its record."""
        number = self._next_number()
        if number > GREATEST_RECORD or not self._past.fits("entry", entry):
            raise InvalidEntry(number)
        self._put("entry", entry, [format_entry(entry)])
        return number

    def write_view(self, view):
        """Put a view behind the last record. Return the number of its record."""
        number = self._next_number()
        if number > GREATEST_RECORD or not is_view(view) or not self._past.fits("view", view):
            raise InvalidJournal("the view cannot stand behind what is there")
        self._put("view", view, [view_body(view)])
        return number

    def write_snapshot(self, keeper):
        """Put a snapshot of the keeper behind the last record. Return the number of its head."""
        number = self._next_number()
        rows = keeper.rows()
        head = (len(rows), self._past.many_entries, keeper.moment, self._past.view)
        if keeper.moment != self._past.moment or not self._past.fits("keep", (head, rows)):
            raise InvalidJournal("the keeper has not taken just what stands ahead")
        if number + len(rows) > GREATEST_RECORD:
            raise InvalidJournal("the numbers of the records would be too great")
        many, entries, moment, view = head
        bodies = [head_body(many, entries, moment, view)] + [row_body(row) for row in rows]
        # A head cannot tell of more entries than its bound, although so many may stand ahead with those dropped.
        if None in [read_body(body) for body in bodies]:
            raise InvalidJournal("the snapshot would have a body of no kind")
        self._put("keep", (head, rows), bodies)
        return number

    def records(self):
        """Return the list of the tuples of number and body."""
        return [(self._first + place, body) for place, body in enumerate(self._bodies)]

    def text(self):
        """Return the text of the records."""
        done = len(self._lines)
        for place, body in enumerate(self._bodies[done:], start=self._first + done):
            self._lines.append(record_text(place, body))
        return "".join(self._lines)

    def entries(self):
        """Return the list of the entries that are there."""
        return list(self._entries)

    def first_entry(self):
        """Return the number of the first entry that is there, which is how many were dropped."""
        return self._past.dropped

    def last_view(self):
        """Return the last view, or None."""
        return self._past.view

    def last_moment(self):
        """Return the moment of the last entry, also if it was dropped, or None."""
        return self._past.moment

    def knows(self, key):
        """Return True if the key was asked, otherwise False."""
        return self._past.knows(key)

    def torn(self, characters):
        """Return the journal that is recovered from so many characters at the beginning of the text."""
        return recovered(self.text()[:characters])

    def trimmed(self):
        """Return the journal without the records ahead of the last snapshot."""
        return journal_of(self.records()[self._last_head:])

    def _next_number(self):
        """Return the number of the next record."""
        return self._first + len(self._bodies)

    def _put(self, word, told, bodies):
        """Put what fits behind the last record."""
        self._past.take(word, told)
        if word == "entry":
            self._entries.append(told)
        elif word == "keep":
            self._last_head = len(self._bodies)
        self._bodies.extend(bodies)

    def _take(self, records):
        """Take as many of the records, whose numbers ascend by 1, as make a journal. There are none yet."""
        at = 0
        while at < len(records):
            unit = read_unit(records, at)
            if unit is None or not self._past.fits(unit[0], unit[1]):
                return
            word, told, many = unit
            if at == 0:
                if word != "keep" and records[0][0] != 0:
                    return
                self._first = records[0][0]
            self._put(word, told, [body for number, body in records[at:at + many]])
            at += many


def journal_of(records):
    """Return the journal that the longest beginning of the records, whose numbers ascend by 1, makes."""
    journal = Journal()
    journal._take(records)
    return journal


def recovered(text):
    """Return the journal of the longest beginning of the text that is the text of a journal."""
    return journal_of(whole_records(text))


def read_journal(text):
    """Return the journal whose text the string is."""
    journal = recovered(text)
    if journal.text() != text:
        raise InvalidJournal("the text is that of no journal")
    return journal


def bodies_by_number(copies):
    """Return the dict of the numbers of all records in the copies, which are lists of lines, to lists of the bodies."""
    found = {}
    for lines in copies:
        for line in lines:
            record = read_record(line)
            if record is not None:
                number, body = record
                bodies = found.setdefault(number, [])
                if body not in bodies:
                    bodies.append(body)
    return found


def mended(texts):
    """Return the journal that is made of copies of one text, which may be damaged at different places."""
    copies = [text.split("\n") for text in texts]
    firsts = [record for record in [read_record(lines[0]) for lines in copies] if record is not None]
    if not firsts:
        return Journal()
    found = bodies_by_number(copies)
    number = firsts[0][0]
    parts = []
    while len(found.get(number, [])) == 1:
        parts.append(record_text(number, found[number][0]))
        number += 1
    return recovered("".join(parts))
