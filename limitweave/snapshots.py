"""Keepers from journals, shorter journals, and what two journals or two rows of entries have in common."""

from limitweave.errors import TooLarge
from limitweave.journal import journal_of, read_unit
from limitweave.keeper import MOST_REQUESTS, keeper_of_rows
from limitweave.replays import give


def last_told(records):
    """Return what the records of a journal tell from their last snapshot on: its moment, its rows, and the entries.

    Without a snapshot the moment is None, and there are no rows.
    """
    moment, rows, entries, at = None, [], [], 0
    while at < len(records):
        word, told, many = read_unit(records, at)
        if word == "keep":
            head, rows = told
            moment, entries = head[2], []
        elif word == "entry":
            entries.append(told)
        at += many
    return (moment, rows, entries)


def keeper_from(book, journal):
    """Return the keeper that goes on from the last snapshot of the journal, with all entries behind it."""
    moment, rows, entries = last_told(journal.records())
    if len(rows) > MOST_REQUESTS:
        raise TooLarge(f"a keeper takes at most {MOST_REQUESTS} requests")
    keeper = keeper_of_rows(book, moment, rows)
    for entry in entries:
        give(keeper, entry)
    return keeper


def shortened(journal, book):
    """Return the journal that has nothing but a snapshot of all that the journal tells."""
    keeper = keeper_from(book, journal)
    longer = journal_of(journal.records())
    longer.write_snapshot(keeper)
    return longer.trimmed()


def agree(first, second):
    """Return True if each entry whose number both journals have is the same in both, otherwise False."""
    start = max(first.first_entry(), second.first_entry())
    left = first.entries()[start - first.first_entry():]
    right = second.entries()[start - second.first_entry():]
    return all([entry == other for entry, other in zip(left, right)])


def common_beginning(first, second):
    """Return the list of the entries with which both lists of entries begin, as many as there are."""
    many = 0
    while many < min(len(first), len(second)) and first[many] == second[many]:
        many += 1
    return first[:many]


def is_beginning(first, second):
    """Return True if the second list of entries begins with the first one, otherwise False."""
    return second[:len(first)] == first
