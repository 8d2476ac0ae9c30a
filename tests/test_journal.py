"""Points 44 to 46 and the class Journal."""

import random
import unittest

from journals import draw_journal, draw_view, is_journal, numbered, text_of
from limitweave.books import Book
from limitweave.errors import InvalidEntry, InvalidJournal
from limitweave.journal import Journal, read_journal, recovered
from limitweave.keeper import Keeper, keeper_of_rows
from limitweave.records import record_text
from limitweave.replays import keeper_of

LAST = 1000000000
BOOK = Book([("few", "window", (), (5, 10)), ("jobs", "held", ("mail",), (4,))])


def state_of(journal):
    return (
        journal.records(), journal.text(), journal.entries(), journal.first_entry(), journal.last_view(),
        journal.last_moment(), journal.trimmed().records(),
    )


class Writing(unittest.TestCase):
    def fails(self, error, journal, call, *arguments, number=None):
        before = state_of(journal)
        with self.assertRaises(error) as caught:
            call(*arguments)
        if number is not None:
            self.assertEqual(caught.exception.number, number)
        self.assertEqual(state_of(journal), before)

    def test_a_journal_without_records(self):
        journal = Journal()
        self.assertEqual(state_of(journal), ([], "", [], 0, None, None, []))
        self.assertIs(journal.knows("a"), False)
        self.assertEqual(journal.torn(0).records(), [])

    def test_as_in_the_document(self):
        journal = Journal()
        self.assertEqual(journal.write(("ask", "job-1", "mail", 5, 40)), 0)
        self.assertEqual(journal.write(("release", "job-1", 47)), 1)
        self.assertEqual(journal.text().split("\n")[1][:-6], "16 1 release job-1 47 ")
        self.assertEqual(journal.torn(40).entries(), [("ask", "job-1", "mail", 5, 40)])
        self.fails(InvalidEntry, journal, journal.write, ("ask", "job-2", "mail", 5, 46), number=2)

    def test_write(self):
        journal = Journal()
        rows = [("ask", "a", "mail", 5, 0), ("release", "a", 0), ("release", "a", 3), ("ask", "b", "web", 1000, LAST)]
        for number, entry in enumerate(rows):
            self.assertEqual(journal.write(entry), number)
        self.assertEqual(journal.entries(), rows)
        self.assertEqual(journal.last_moment(), LAST)
        self.assertEqual([journal.knows(key) for key in ("a", "b", "c", "")], [True, True, False, False])
        bodies = ["ask a mail 5 0", "release a 0", "release a 3", "ask b web 1000 1000000000"]
        self.assertEqual(journal.records(), numbered(bodies))
        self.assertEqual(journal.text(), text_of(numbered(bodies)))

    def test_wrong_entries(self):
        journal = Journal()
        self.fails(InvalidEntry, journal, journal.write, ("release", "a", 0), number=0)
        journal.write(("ask", "a", "mail", 5, 7))
        journal.write_view((1, 0, ("a",)))
        for entry in (
            ("ask", "a", "mail", 5, 7), ("ask", "b", "mail", 5, 6), ("release", "b", 7), ("release", "a", 6), ("ask", "B", "mail", 5, 7),
            ("ask", "b", "Mail", 5, 7), ("ask", "b", "mail", 0, 7), ("ask", "b", "mail", 1001, 7), ("ask", "b", "mail", 5, LAST + 1),
            ("release", "a", LAST + 1), ("release", "a"), ("ask", "b", "mail", 5), ("ask", "b", "mail", 5, 7, 7), ("let", "b", "mail", 5, 7),
            ("release", "a", 7, 7), ("release", 7, "a"), ("ask", "b", 5, "mail", 7), ("view",), ("release", "a", "7"), ("ask",),
            ("view", 1, 0, "a"), ("ask", "b", "mail", 5, "7"),
        ):
            self.fails(InvalidEntry, journal, journal.write, entry, number=2)
        self.assertEqual(journal.write(("ask", "b", "mail", 5, 7)), 2)

    def test_write_view(self):
        journal = Journal()
        for number, view in enumerate((
            (0, None, ("a",)), (0, None, ("a",)), (1, None, ("b", "a")), (1, 7, ("b", "a")), (1, 7, ("b", "a")), (5, 7, ("c",)),
            (999999, 7, ("h1", "h2", "h3", "h4", "h5", "h6", "h7", "h8")),
        )):
            self.assertEqual(journal.write_view(view), number)
            self.assertEqual(journal.last_view(), view)
        self.assertEqual(journal.records()[3], (3, "view 1 7 b a"))
        self.assertEqual(journal.entries(), [])
        self.assertIsNone(journal.last_moment())

    def test_wrong_views(self):
        journal = Journal()
        eight = tuple(f"h{number}" for number in range(8))
        wrong = [
            (-1, 0, ("a",)), (1000000, 0, ("a",)), (1, -1, ("a",)), (1, 1000000, ("a",)), (1, 0, ()), (1, 0, ("a", "a")),
            (1, 0, ("A",)), (1, 0, ("",)), (1, 0, ("a" * 13,)), (1, 0, eight + ("i",)),
        ]
        for view in wrong:
            self.fails(InvalidJournal, journal, journal.write_view, view)
        journal.write_view((3, None, ("a", "b")))
        for view in wrong + [(2, None, ("a", "b")), (3, None, ("b", "a")), (3, None, ("a",)), (3, 1, ("a", "b", "c"))]:
            self.fails(InvalidJournal, journal, journal.write_view, view)
        journal.write_view((3, 5, ("a", "b")))
        for view in ((3, None, ("a", "b")), (3, 6, ("a", "b")), (4, None, ("a", "b")), (4, 0, ("c",)), (2, 5, ("a", "b"))):
            self.fails(InvalidJournal, journal, journal.write_view, view)
        self.assertEqual(journal.write_view((4, 5, ("c",))), 2)

    def test_write_snapshot(self):
        journal, keeper = Journal(), Keeper(BOOK)
        self.assertEqual(journal.write_snapshot(keeper), 0)
        self.assertEqual(journal.records(), [(0, "keep 0 0 none")])
        journal.write_view((2, None, ("a", "b")))
        self.assertEqual(journal.write_snapshot(keeper), 2)
        for entry in (
            ("ask", "a", "mail", 4, 3), ("ask", "b", "mail", 1, 8), ("release", "a", 9), ("ask", "c", "web", 9, 9), ("release", "b", 9),
            ("ask", "d", "mail", 1, 9),
        ):
            journal.write(entry)
            keeper.ask(entry[1:4], entry[4]) if entry[0] == "ask" else keeper.release(entry[1], entry[2])
        self.assertEqual(journal.write_snapshot(keeper), 9)
        self.assertEqual([body for _, body in journal.records()[9:]], [
            "keep 4 6 9 2 none a b", "key a mail 4 3 back", "key b mail 1 8 refused never jobs", "key c web 9 9 refused never few",
            "key d mail 1 9 let",
        ])
        self.assertEqual(journal.write(("release", "d", 11)), 14)
        self.assertEqual(journal.first_entry(), 0)
        self.assertEqual(journal.last_moment(), 11)
        self.assertEqual(len(journal.entries()), 7)

    def test_wrong_snapshots(self):
        journal, entries = Journal(), []
        for entry in (("ask", "a", "mail", 4, 3), ("ask", "b", "mail", 1, 8), ("release", "a", 9), ("release", "b", 9)):
            journal.write(entry)
            entries.append(entry)
        right = keeper_of(BOOK, entries)
        rows = right.rows()
        a, b = rows
        for moment, wrong in (
            (8, rows), (10, rows), (None, rows), (None, []), (9, []), (9, rows[:1]), (9, rows[1:]), (9, rows[::-1]),
            (9, rows + [("c", "mail", 1, 9, (), 9, False)]), (9, [a[:6] + (False,), b]), (9, [a[:3] + (4, (), 4, True), b]),
            (9, [("c",) + a[1:], b]), (9, [a[:1] + ("web",) + a[2:], b]), (9, [a[:2] + (3,) + a[3:], b]),
            (9, [a, b[:4] + ((), 8, False)]),
        ):
            self.fails(InvalidJournal, journal, journal.write_snapshot, keeper_of_rows(BOOK, moment, wrong))
        self.fails(InvalidJournal, journal, journal.write_snapshot, Keeper(BOOK))
        twin = read_journal(journal.text())
        self.assertEqual(twin.write_snapshot(keeper_of_rows(BOOK, 9, [a, b[:4] + ((), 8, True)])), 4)
        self.assertEqual(journal.write_snapshot(right), 4)
        self.fails(InvalidJournal, journal, journal.write_snapshot, keeper_of_rows(BOOK, 9, [a, b[:4] + ((), 8, True)]))
        self.fails(InvalidJournal, journal, journal.write_snapshot, keeper_of_rows(BOOK, 9, [a[:4] + (("few",), None, False), b]))
        self.fails(InvalidJournal, twin, twin.write_snapshot, right)
        self.assertEqual(journal.write_snapshot(keeper_of_rows(BOOK, 9, [a, b[:4] + (("few", "jobs"), 99, False)])), 7)

    def test_a_snapshot_of_a_keeper_on_an_empty_journal(self):
        journal = Journal()
        self.fails(InvalidJournal, journal, journal.write_snapshot, keeper_of(BOOK, [("ask", "a", "mail", 4, 3)]))
        journal.write_view((1, 0, ("a",)))
        self.fails(InvalidJournal, journal, journal.write_snapshot, keeper_of(BOOK, [("ask", "a", "mail", 4, 3)]))

    def test_what_was_let_in_may_be_told_back_only_if_it_is(self):
        journal = recovered(text_of(numbered(["keep 2 3 9", "key a g 1 3 back", "key b g 1 9 let"], 5)))
        a, b = ("a", "g", 1, 3, (), 3, True), ("b", "g", 1, 9, (), 9, False)
        for wrong in ([a[:6] + (False,), b], [a, b[:6] + (True,)], [a, b[:4] + (("few",), 10, False)]):
            self.fails(InvalidJournal, journal, journal.write_snapshot, keeper_of_rows(BOOK, 9, wrong))
        self.assertEqual(journal.write_snapshot(keeper_of_rows(BOOK, 9, [a, b])), 8)
        journal.write(("release", "b", 12))
        self.fails(InvalidJournal, journal, journal.write_snapshot, keeper_of_rows(BOOK, 12, [a, b]))
        self.assertEqual(journal.write_snapshot(keeper_of_rows(BOOK, 12, [a, b[:6] + (True,)])), 12)

    def test_the_last_numbers(self):
        head = ["keep 1 1 3", "key a g 1 3 let"]
        row = ("a", "g", 1, 3, (), 3, False)
        journal = recovered(text_of(numbered(head, 999998)))
        self.assertEqual(len(journal.records()), 2)
        self.fails(InvalidEntry, journal, journal.write, ("ask", "b", "g", 1, 4), number=1000000)
        self.fails(InvalidEntry, journal, journal.write, ("ask", "B", "g", 1, 4), number=1000000)
        self.fails(InvalidJournal, journal, journal.write_view, (1, 0, ("a",)))
        self.fails(InvalidJournal, journal, journal.write_snapshot, keeper_of_rows(BOOK, 3, [row]))
        journal = recovered(text_of(numbered(head, 999997)))
        self.fails(InvalidJournal, journal, journal.write_snapshot, keeper_of_rows(BOOK, 3, [row]))
        self.assertEqual(journal.write_view((1, 0, ("a",))), 999999)
        journal = recovered(text_of(numbered(head, 999997)))
        self.assertEqual(journal.write(("ask", "b", "g", 1, 4)), 999999)
        self.assertEqual(journal.records()[-1], (999999, "ask b g 1 4"))
        self.fails(InvalidEntry, journal, journal.write, ("ask", "c", "g", 1, 4), number=1000000)
        journal = recovered(text_of(numbered(head, 999996)))
        self.assertEqual(journal.write_snapshot(keeper_of_rows(BOOK, 3, [row])), 999998)
        self.assertEqual(recovered(journal.text()).records(), journal.records())

    def test_the_greatest_number_of_entries(self):
        """A head tells of at most 999999 entries, also where more stand ahead together with those that were dropped."""
        row = ("a", "g", 1, 3, (), 3, True)
        for entries, writes in ((999998, True), (999999, False)):
            journal = recovered(text_of(numbered([f"keep 1 {entries} 3", "key a g 1 3 back"])))
            self.assertEqual(journal.write(("release", "a", 4)), 2)
            keeper = keeper_of_rows(BOOK, 4, [row])
            if writes:
                self.assertEqual(journal.write_snapshot(keeper), 3)
                self.assertEqual(journal.records()[3], (3, "keep 1 999999 4"))
            else:
                self.fails(InvalidJournal, journal, journal.write_snapshot, keeper)
                self.assertEqual(journal.write(("release", "a", 4)), 3)
                self.fails(InvalidJournal, journal, journal.write_snapshot, keeper)
            self.assertEqual(read_journal(journal.text()).records(), journal.records())


class Telling(unittest.TestCase):
    def test_lists_that_are_told_may_be_changed(self):
        journal, _ = draw_journal(random.Random(3), 12)
        before = state_of(journal)
        journal.records().clear()
        journal.entries().clear()
        self.assertEqual(state_of(journal), before)

    def test_drawn_journals(self):
        draw = random.Random(46)
        for _ in range(60):
            journal, keeper = draw_journal(draw, draw.randint(0, 25))
            records = journal.records()
            self.assertTrue(is_journal(records))
            self.assertEqual([number for number, _ in records], list(range(len(records))))
            self.assertEqual(journal.text(), text_of(records))
            self.assertEqual(journal.last_moment(), keeper.moment)
            self.assertEqual([entry[1] for entry in journal.entries() if entry[0] == "ask"], [row[0] for row in keeper.rows()])
            self.assertTrue(all(journal.knows(row[0]) for row in keeper.rows()))
            self.assertEqual(state_of(read_journal(journal.text())), state_of(journal))

    def test_two_journals_go_on_by_themselves(self):
        journal, _ = draw_journal(random.Random(5), 12)
        before = state_of(journal)
        for other in (journal.torn(len(journal.text())), journal.trimmed(), read_journal(journal.text())):
            other.write(("ask", "new", "g", 1, LAST))
            other.write_view((999999, (journal.last_view() or (0, None))[1], ("z",)))
        self.assertEqual(state_of(journal), before)
        self.assertIs(journal.knows("new"), False)


class Torn(unittest.TestCase):
    def test_at_each_place(self):
        draw = random.Random(47)
        for _ in range(5):
            journal, _ = draw_journal(draw, 9, 0.4)
            self.assertIn("keep", journal.text())
            units, at, text = [0], 0, journal.text()
            records = journal.records()
            while at < len(records):
                words = records[at][1].split(" ")
                at += 1 + (int(words[1]) if words[0] == "keep" else 0)
                units.append(at)
            for characters in range(len(text) + 1):
                whole = max(many for many in units if len(text_of(records[:many])) <= characters)
                torn = journal.torn(characters)
                self.assertIsInstance(torn, Journal)
                self.assertEqual(torn.records(), records[:whole])
            self.assertEqual(journal.text(), text)


class Trimmed(unittest.TestCase):
    def test_without_a_snapshot(self):
        journal, _ = draw_journal(random.Random(6), 12, 0)
        self.assertEqual(state_of(journal.trimmed()), state_of(journal))
        self.assertEqual(Journal().trimmed().records(), [])

    def test_with_snapshots(self):
        draw = random.Random(51)
        for _ in range(60):
            journal, keeper = draw_journal(draw, draw.randint(1, 20), 0.2)
            heads = [number for number, body in journal.records() if body.startswith("keep ")]
            trimmed = journal.trimmed()
            start = heads[-1] if heads else 0
            self.assertEqual(trimmed.records(), journal.records()[start:])
            self.assertTrue(is_journal(trimmed.records()))
            dropped = sum(1 for _, body in journal.records()[:start] if body.startswith(("ask ", "release ")))
            self.assertEqual(trimmed.first_entry(), dropped)
            self.assertEqual(trimmed.entries(), journal.entries()[dropped:])
            self.assertEqual((trimmed.last_view(), trimmed.last_moment()), (journal.last_view(), journal.last_moment()))
            self.assertTrue(all(trimmed.knows(row[0]) for row in keeper.rows()))
            self.assertEqual(state_of(trimmed.trimmed()), state_of(trimmed))
            self.assertEqual(trimmed.write_snapshot(keeper), journal.write_snapshot(keeper))
            self.assertEqual(trimmed.trimmed().records(), journal.trimmed().records())
            view = draw_view(draw, journal.last_view())
            self.assertEqual(trimmed.write_view(view), journal.write_view(view))
            with self.assertRaises(InvalidEntry):
                trimmed.write(("ask", keeper.rows()[0][0], "g", 1, LAST))

    def test_by_hand(self):
        journal, keeper = Journal(), Keeper(BOOK)
        journal.write_view((1, 3, ("a", "b")))
        journal.write(("ask", "x", "mail", 4, 3))
        keeper.ask(("x", "mail", 4), 3)
        journal.write_snapshot(keeper)
        journal.write(("release", "x", 5))
        trimmed = journal.trimmed()
        self.assertEqual(trimmed.text(), "".join(record_text(number, body) for number, body in (
            (2, "keep 1 1 3 1 3 a b"), (3, "key x mail 4 3 let"), (4, "release x 5"),
        )))
        self.assertEqual((trimmed.first_entry(), trimmed.last_view()), (1, (1, 3, ("a", "b"))))
        self.assertEqual(trimmed.write(("ask", "y", "mail", 4, 5)), 5)
        for view in ((1, None, ("a", "b")), (1, 3, ("a",)), (2, 4, ("a",)), (0, 3, ("a",))):
            with self.assertRaises(InvalidJournal):
                trimmed.write_view(view)
