"""What a house writes and sends, from points 56 to 61, over all bodies of its journal each time; and houses for tests."""

import unittest

from journals import numbered, text_of
from limitweave.bodies import read_body, view_body
from limitweave.books import Book
from limitweave.house import House
from limitweave.letters import Letter
from limitweave.notation import format_entry
from limitweave.replays import keeper_of

BOOK = Book([("few", "window", (), (5, 10)), ("jobs", "held", ("mail",), (6,))])
# Of these, c is refused with an earliest moment and d for ever, a is released, and b and e hold what they were given.
ROW = [
    ("ask", "a", "mail", 2, 3), ("ask", "b", "web", 3, 4), ("ask", "c", "web", 1, 6), ("release", "a", 7),
    ("ask", "d", "mail", 9, 8), ("ask", "e", "mail", 1, 20),
]
VIEW = (4, ("u", "v", "w"))


def row_in(bodies):
    return [told for word, told in map(read_body, bodies) if word == "entry"]


def view_in(bodies):
    """The view and the due that some bodies tell."""
    views = [told for word, told in map(read_body, bodies) if word == "view"]
    return ((views[-1][0], views[-1][2]), views[-1][1]) if views else (None, None)


def full_in(bodies):
    due = view_in(bodies)[1]
    return due is not None and len(row_in(bodies)) >= due


def place_of(name, view):
    """The houses ahead of and behind a house of the view."""
    around = (None,) + view[1] + (None,)
    at = around.index(name)
    return around[at - 1], around[at + 1]


def entries_letter(name, bodies, first):
    view, due = view_in(bodies)
    row = row_in(bodies)
    greater = None if due is None else max(due, len(row))
    return (place_of(name, view)[1], view, ("entries", first, tuple(row[first:]), greater))


def passed_on(name, book, bodies, many):
    """The letters for all entries from the place `many` on, which are new."""
    view, row = view_in(bodies)[0], row_in(bodies)
    if len(row) == many:
        return []
    if place_of(name, view)[1] is not None:
        return [entries_letter(name, bodies, many)]
    keeper = keeper_of(book, row)
    return [
        ("", view, ("released", entry[1]) if entry[0] == "release" else ("told",) + keeper.answer_of(entry[1]).parts())
        for entry in row[many:]
    ]


def told_again(name, book, bodies, key):
    view, keeper = view_in(bodies)[0], keeper_of(book, row_in(bodies))
    if not keeper.knows(key):
        return []
    if place_of(name, view)[1] is not None:
        return [(place_of(name, view)[1], view, ("again", key))]
    letters = [("", view, ("told",) + keeper.answer_of(key).parts())]
    row = {row[0]: row for row in keeper.rows()}[key]
    return letters + ([("", view, ("released", key))] if row[6] else [])


def decided(name, book, bodies, body, moment):
    keeper, row = keeper_of(book, row_in(bodies)), row_in(bodies)
    is_new = not keeper.knows(body[1]) if body[0] == "ask" else keeper.knows(body[1]) and keeper.holds(body[1])
    if not is_new:
        return bodies, told_again(name, book, bodies, body[1])
    last = row[-1][-1] if row else 0
    bodies = bodies + [format_entry(body + (max(last, moment),))]
    return bodies, passed_on(name, book, bodies, len(row))


def taken(name, book, bodies, body):
    _, first, entries, due = body
    many, was_full = len(row_in(bodies)), full_in(bodies)
    view = view_in(bodies)
    if view[1] is None and due is not None:
        bodies = bodies + [view_body((view[0][0], due, view[0][1]))]
    if first <= many:
        bodies = bodies + [format_entry(entry) for at, entry in enumerate(entries, start=first) if at >= many]
    letters = passed_on(name, book, bodies, many)
    return bodies, letters + ([("", view[0], ("full",))] if full_in(bodies) and not was_full else [])


def obeyed(name, book, bodies, letter, moment):
    """The bodies behind points 57 to 60, and the letters."""
    view = view_in(bodies)[0]
    ahead, behind = place_of(name, view)
    word = letter.body[0]
    if word in ("ask", "release") and ahead is None:
        return decided(name, book, bodies, letter.body, moment)
    if word == "entries" and letter.sender == ahead:
        return taken(name, book, bodies, letter.body)
    if word == "have" and letter.sender == behind and letter.body[1] <= len(row_in(bodies)):
        return bodies, [entries_letter(name, bodies, letter.body[1])]
    if word == "again" and letter.sender == ahead:
        return bodies, told_again(name, book, bodies, letter.body[1])
    return bodies, []


def have_letter(name, bodies):
    view = view_in(bodies)[0]
    ahead = place_of(name, view)[0]
    return [] if ahead is None else [(ahead, view, ("have", len(row_in(bodies))))]


def handled(name, book, bodies, letter, moment):
    """All bodies of the journal behind a letter, and the letters that are sent."""
    view, due = view_in(bodies)
    if view is None:
        return bodies, []
    has_learnt = letter.view is not None and letter.view[0] > view[0]
    if has_learnt:
        bodies = bodies + [view_body((letter.view[0], due, letter.view[1]))]
        view = letter.view
    if letter.view is not None and letter.view[0] < view[0] or name not in view[1]:
        return bodies, []
    many = len(row_in(bodies))
    bodies, letters = obeyed(name, book, bodies, letter, moment)
    is_taken = letter.body[0] == "entries" and letter.sender == place_of(name, view)[0]
    if has_learnt or is_taken and letter.body[1] > many:
        letters = letters + have_letter(name, bodies)
    return bodies, letters


def woken(name, bodies):
    view = view_in(bodies)[0]
    if view is None or name not in view[1]:
        return []
    return have_letter(name, bodies) + ([("", view, ("full",))] if full_in(bodies) else [])


def text_with(bodies):
    return text_of(numbered(bodies))


class HouseTest(unittest.TestCase):
    """Tests of a house: what it sends on a letter, and what it writes to its journal."""

    def house(self, name, many=0, due=None, view=VIEW, book=BOOK):
        """A house that has the first entries of the row, and a view."""
        bodies = [view_body((view[0], due, view[1]))] + [format_entry(entry) for entry in ROW[:many]]
        return House(name, book, text_with(bodies))

    def handle(self, house, sender, body, view=VIEW, moment=0, sends=(), writes=()):
        """Let the house handle a letter, and look at the letters that it sends, and at the bodies that it writes."""
        before = house.journal_text()
        letter = Letter(0, sender, house.name, view, body)
        sent = house.handle(letter, moment)
        self.assertEqual(sent, list(sends))
        self.assertIsInstance(sent, list)
        self.assertEqual(letter.parts(), (0, sender, house.name, view, body))
        first = before.count("\n")
        self.assertEqual(house.journal_text(), before + text_of(numbered(list(writes), first)))
        again = House(house.name, BOOK, house.journal_text())
        self.assertEqual((again.row(), again.view, again.due), (house.row(), house.view, house.due))
