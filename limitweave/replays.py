"""Rows of entries that are given to a keeper from their beginning."""

from limitweave.books import check_entries
from limitweave.keeper import Keeper


def give(keeper, entry):
    """Give an entry to the keeper. Return the list of the deeds that come of it: one or none."""
    if entry[0] == "ask":
        _, key, group, cost, moment = entry
        return [("let", key, group, cost, moment)] if keeper.ask((key, group, cost), moment).is_let else []
    return [entry] if keeper.release(entry[1], entry[2]) else []


def keeper_of(book, entries):
    """Return a keeper to which the entries were given in order."""
    check_entries(entries)
    keeper = Keeper(book)
    for entry in entries:
        give(keeper, entry)
    return keeper


def answers_for(book, entries):
    """Return the list of the answers to the requests among the entries, in order."""
    keeper = keeper_of(book, entries)
    return [keeper.answer_of(entry[1]) for entry in entries if entry[0] == "ask"]


def deeds_of(book, entries):
    """Return the list of the deeds of the entries."""
    check_entries(entries)
    keeper = Keeper(book)
    deeds = []
    for entry in entries:
        deeds.extend(give(keeper, entry))
    return deeds
