"""Keepers from journals, shorter journals, journals that agree, and common beginnings (points 49 to 52)."""

import random
import unittest

from drawing import draw_book, draw_entries
from journals import draw_journal, draw_view, text_of
from limitweave.bodies import head_body, row_body
from limitweave.books import Book
from limitweave.errors import EarlierMoment, InvalidEntry, InvalidJournal, KeyKnown, TooLarge, UnknownKey
from limitweave.journal import Journal, read_journal
from limitweave.keeper import Keeper
from limitweave.replays import give, keeper_of
from limitweave.snapshots import agree, common_beginning, is_beginning, keeper_from, shortened

BOOK = Book([("few", "window", (), (5, 10)), ("jobs", "held", ("mail",), (6,))])
VIEW = (3, None, ("a", "b"))


def journal_with(parts):
    """A journal with entries, views and snapshots, the last of which are told by the book that writes them."""
    journal, taken = Journal(), []
    for part in parts:
        if isinstance(part, Book):
            journal.write_snapshot(keeper_of(part, taken))
        elif part[0] in ("ask", "release"):
            journal.write(part)
            taken.append(part)
        else:
            journal.write_view(part)
    return journal, taken


def behaviour(keeper, draw):
    """What a keeper answers to requests and releases that are drawn."""
    keeper, seen, moment = keeper.twin(), [], keeper.moment or 0
    keys = [row[0] for row in keeper.rows()]
    for number in range(12):
        moment += draw.choice((0, 0, 1, 2, 7))
        if keys and draw.random() < 0.3:
            seen.append(keeper.release(draw.choice(keys), moment))
        else:
            keys.append(f"new-{number}")
            seen.append(keeper.ask((keys[-1], draw.choice("abc"), draw.choice((1, 2, 4))), moment).parts())
    return seen, keeper.rows(), keeper.moment


class SameKeeper(unittest.TestCase):
    def check_same(self, found, wanted, seed=0):
        self.assertIsInstance(found, Keeper)
        self.assertTrue(found.book.same_as(wanted.book))
        self.assertEqual(found.rows(), wanted.rows())
        self.assertEqual(found.moment, wanted.moment)
        for turn in range(2):
            place = f"{seed} {turn}"
            self.assertEqual(behaviour(found, random.Random(place)), behaviour(wanted, random.Random(place)))


class KeeperFrom(SameKeeper):
    def test_the_example_of_the_document(self):
        book = Book([("few", "window", (), (5, 10))])
        journal = Journal()
        self.assertEqual([journal.write(("ask", "a", "mail", 4, 3)), journal.write(("ask", "b", "mail", 2, 8))], [0, 1])
        shorter = shortened(journal, book)
        self.assertEqual(
            [body for number, body in shorter.records()],
            ["keep 2 2 8", "key a mail 4 3 let", "key b mail 2 8 refused 13 few"],
        )
        self.assertEqual(keeper_from(book, shorter).ask(("c", "mail", 2), 12).earliest, 13)

    def test_no_records_and_no_entries(self):
        for parts in ([], [VIEW], [BOOK], [VIEW, BOOK, BOOK]):
            journal, _ = journal_with(parts)
            self.check_same(keeper_from(BOOK, journal), Keeper(BOOK))
            self.check_same(keeper_from(BOOK, journal.trimmed()), Keeper(BOOK))

    def test_entries_views_and_snapshots_in_any_order(self):
        asks = [("ask", f"k{at}", ("mail", "web")[at % 2], 2, 3 * at) for at in range(6)]
        back = [("release", "k0", 20), ("release", "k5", 20), ("release", "k0", 21)]
        for parts in (
            asks, asks + back, asks + [BOOK], asks + back + [BOOK], asks + [BOOK] + back, [VIEW] + asks + [VIEW, BOOK],
            asks[:2] + [BOOK, VIEW] + asks[2:4] + [BOOK] + asks[4:] + back, asks[:3] + [BOOK, BOOK] + asks[3:],
            asks[:1] + [BOOK] + asks[1:] + back[:1] + [BOOK, VIEW] + back[1:] + [VIEW], [BOOK] + asks + back,
        ):
            journal, taken = journal_with(parts)
            wanted = keeper_of(BOOK, taken)
            self.check_same(keeper_from(BOOK, journal), wanted)
            self.check_same(keeper_from(BOOK, journal.trimmed()), wanted)
            self.check_same(keeper_from(BOOK, read_journal(journal.text())), wanted)

    def test_drawn_journals_also_trimmed_ones_that_go_on(self):
        for seed in range(120):
            draw = random.Random(f"keeper from {seed}")
            journal, keeper = draw_journal(draw, draw.randint(0, 25), draw.choice((0.05, 0.2, 0.5)))
            self.check_same(keeper_from(keeper.book, journal), keeper, seed)
            self.check_same(keeper_from(keeper.book, journal.trimmed()), keeper, seed)
            shorter = shortened(journal, keeper.book)
            self.check_same(keeper_from(keeper.book, shorter), keeper, seed)
            for entry in draw_entries(draw, 8, keeper.moment or 0, stem="m"):
                for one in (journal, shorter):
                    one.write(entry)
                give(keeper, entry)
            self.check_same(keeper_from(keeper.book, shorter), keeper, seed)
            self.check_same(keeper_from(keeper.book, shortened(shorter, keeper.book)), keeper, seed)
            self.check_same(keeper_from(keeper.book, journal), keeper, seed)

    def test_what_a_snapshot_says_is_not_decided_again(self):
        journal = read_journal(text_of([(7, "keep 2 2 5"), (8, "key a mail 5 1 let"), (9, "key b mail 1 5 let")]))
        narrow = Book([("few", "window", (), (1, 10))])
        keeper = keeper_from(narrow, journal)
        self.assertEqual(keeper.rows(), [("a", "mail", 5, 1, (), 1, False), ("b", "mail", 1, 5, (), 5, False)])
        self.assertEqual(keeper.moment, 5)
        self.assertEqual(keeper.ask(("c", "mail", 1), 14).lacking, ("few",))

    def test_the_moment_of_a_release_ahead_of_the_snapshot(self):
        journal, _ = journal_with([("ask", "a", "mail", 1, 3), ("release", "a", 9), BOOK])
        for one in (journal, journal.trimmed()):
            keeper = keeper_from(BOOK, one)
            self.assertEqual(keeper.moment, 9)
            with self.assertRaises(EarlierMoment) as caught:
                keeper.ask(("b", "mail", 1), 8)
            self.assertEqual(caught.exception.moment, 9)
            with self.assertRaises(KeyKnown):
                keeper.ask(("a", "mail", 1), 9)
            with self.assertRaises(UnknownKey):
                keeper.release("b", 9)

    def test_each_keeper_stands_by_itself(self):
        journal, taken = journal_with([("ask", "a", "mail", 4, 3), BOOK, ("ask", "b", "web", 1, 4)])
        text = journal.text()
        for one in (journal, journal.trimmed()):
            first = keeper_from(BOOK, one)
            first.release("a", 5)
            first.ask(("c", "mail", 3), 30)
            self.check_same(keeper_from(BOOK, one), keeper_of(BOOK, taken))
        shortened(journal, BOOK).write(("ask", "z", "mail", 1, 9))
        self.check_same(keeper_from(BOOK, journal), keeper_of(BOOK, taken))
        self.assertEqual(journal.text(), text)

    def test_a_snapshot_that_is_torn_off_at_each_place(self):
        for seed in range(12):
            draw = random.Random(f"torn {seed}")
            journal, keeper = draw_journal(draw, draw.randint(1, 9), 0.2)
            if seed % 3 == 0:
                journal = journal.trimmed()
            before, start = journal.records(), len(journal.text())
            entries, view = journal.entries(), journal.last_view()
            journal.write_snapshot(keeper_from(keeper.book, journal))
            for characters in range(start, len(journal.text()) + 1):
                torn = journal.torn(characters)
                whole = characters == len(journal.text())
                self.assertEqual(torn.records(), journal.records() if whole else before)
                self.assertEqual((torn.entries(), torn.last_view()), (entries, view))
                found = keeper_from(keeper.book, torn)
                self.assertEqual((found.rows(), found.moment), (keeper.rows(), keeper.moment))
            self.check_same(keeper_from(keeper.book, journal.trimmed()), keeper, seed)


class ManyKeys(SameKeeper):
    wide = Book([("all", "window", (), (1000000, 5))])

    def journal_of_keys(self, told, asked):
        """A journal that tells some keys by a snapshot at its beginning and others by entries."""
        rows = [(f"t{at}", "a", 1, at, (), at, False) for at in range(told)]
        records = [(5, head_body(told, told, told - 1, None))] + [(6 + at, row_body(row)) for at, row in enumerate(rows)]
        journal = read_journal(text_of(records)) if told else Journal()
        for at in range(asked):
            journal.write(("ask", f"k{at}", "a", 1, told + at))
        return journal

    def test_two_thousand_keys(self):
        for told, asked in ((0, 2000), (2000, 0), (1200, 800)):
            journal = self.journal_of_keys(told, asked)
            journal.write(("release", "k0" if asked else "t0", 5000))
            keeper = keeper_from(self.wide, journal)
            self.assertEqual(len(keeper.rows()), 2000)
            self.assertEqual(len(shortened(journal, self.wide).records()), 2001)
            with self.assertRaises(TooLarge):
                keeper.ask(("one-more", "a", 1), 6000)

    def test_more_than_two_thousand_keys(self):
        for told, asked in ((0, 2001), (2001, 0), (1200, 801), (2000, 1), (2001, 1)):
            journal = self.journal_of_keys(told, asked)
            text = journal.text()
            with self.assertRaises(TooLarge):
                keeper_from(self.wide, journal)
            with self.assertRaises(TooLarge):
                shortened(journal, self.wide)
            self.assertEqual(journal.text(), text)


class Shortened(SameKeeper):
    def test_one_snapshot_with_the_next_number(self):
        for seed in range(60):
            draw = random.Random(f"shortened {seed}")
            journal, keeper = draw_journal(draw, draw.randint(0, 20))
            if seed % 2:
                journal = journal.trimmed()
            before = journal.records()
            shorter = shortened(journal, keeper.book)
            number = before[-1][0] + 1 if before else 0
            all_entries = journal.first_entry() + len(journal.entries())
            bodies = [head_body(len(keeper.rows()), all_entries, keeper.moment, journal.last_view())]
            bodies += [row_body(row) for row in keeper.rows()]
            self.assertEqual(shorter.records(), [(number + at, body) for at, body in enumerate(bodies)])
            self.assertEqual(journal.records(), before)
            self.assertEqual((shorter.entries(), shorter.first_entry()), ([], all_entries))
            self.assertEqual(shorter.last_view(), journal.last_view())
            self.assertEqual(shorter.last_moment(), journal.last_moment())
            self.assertEqual(shorter.records(), read_journal(shorter.text()).records())

    def test_it_is_what_the_two_steps_leave(self):
        for seed in range(20):
            journal, keeper = draw_journal(random.Random(f"steps {seed}"), 12)
            shorter = shortened(journal, keeper.book)
            journal.write_snapshot(keeper)
            self.assertEqual(journal.trimmed().text(), shorter.text())

    def test_it_refuses_what_the_longer_one_refuses(self):
        for seed in range(40):
            draw = random.Random(f"refuses {seed}")
            journal, keeper = draw_journal(draw, 12)
            shorter = shortened(journal, keeper.book)
            moment = journal.last_moment()
            for entry in (
                ("ask", draw.choice(keeper.rows())[0], "a", 1, moment), ("ask", "new", "a", 1, moment - 1),
                ("release", "none", moment), ("release", keeper.rows()[0][0], moment - 1), ("ask", "new", "a", 0, moment),
            ):
                for one in (journal, shorter):
                    text = one.text()
                    with self.assertRaises(InvalidEntry):
                        one.write(entry)
                    self.assertEqual(one.text(), text)
            for view in ((draw_view(draw, journal.last_view())), (0, 4, ("q",)), (2, 2, ("a",))):
                raised = []
                for one in (journal, shorter):
                    try:
                        one.write_view(view)
                        raised.append(False)
                    except InvalidJournal:
                        raised.append(True)
                self.assertEqual(raised[0], raised[1])
            for key in [row[0] for row in keeper.rows()] + ["new", "none"]:
                self.assertEqual(shorter.knows(key), journal.knows(key))
            for one in (journal, shorter):
                one.write(("release", keeper.rows()[0][0], moment))
                one.write(("ask", "new", "a", 1, moment))

    def test_numbers_up_to_the_greatest(self):
        rows = ["key a mail 1 3 let", "key b mail 1 3 back"]
        for first, fits in ((999993, True), (999994, True), (999995, False), (999996, False), (999997, False)):
            records = [(first, "keep 2 3 4")] + [(first + 1 + at, body) for at, body in enumerate(rows)]
            journal = read_journal(text_of(records))
            if fits:
                self.assertEqual(shortened(journal, BOOK).records(), [(number + 3, body) for number, body in records])
            else:
                with self.assertRaises(InvalidJournal):
                    shortened(journal, BOOK)
            self.assertEqual(journal.records(), records)
        for number in (999998, 999999):
            journal = read_journal(text_of([(number, "keep 0 0 none 4 none a")]))
            if number == 999999:
                with self.assertRaises(InvalidJournal):
                    shortened(journal, BOOK)
            else:
                self.assertEqual(shortened(journal, BOOK).records(), [(999999, "keep 0 0 none 4 none a")])

    def test_too_many_keys_come_first(self):
        first = 999999 - 2001
        rows = [(f"t{at}", "a", 1, at, (), at, False) for at in range(2001)]
        records = [(first, "keep 2001 2001 2000")] + [(first + 1 + at, row_body(row)) for at, row in enumerate(rows)]
        with self.assertRaises(TooLarge):
            shortened(read_journal(text_of(records)), ManyKeys.wide)

    def test_entries_that_no_head_can_tell(self):
        journal = read_journal(text_of([(3, "keep 1 999999 4"), (4, "key a mail 1 4 let")]))
        self.assertEqual(shortened(journal, BOOK).records(), [(5, "keep 1 999999 4"), (6, "key a mail 1 4 let")])
        journal.write(("release", "a", 5))
        with self.assertRaises(InvalidJournal):
            shortened(journal, BOOK)


def holds_by_numbers(first, second):
    """Point 52, by the numbers of the entries."""
    left = {first.first_entry() + at: entry for at, entry in enumerate(first.entries())}
    right = {second.first_entry() + at: entry for at, entry in enumerate(second.entries())}
    return all(right.get(number, entry) == entry for number, entry in left.items())


class Agree(unittest.TestCase):
    entries = [("ask", "a", "mail", 1, 3), ("ask", "b", "web", 2, 4), ("release", "a", 4), ("ask", "c", "mail", 3, 9)]

    def journal(self, entries, dropped=0):
        """A journal with these entries, the first of which are dropped."""
        journal, _ = journal_with(entries[:dropped])
        if dropped:
            journal = shortened(journal, BOOK)
        for entry in entries[dropped:]:
            journal.write(entry)
        return journal

    def check(self, first, second, wanted):
        for one, other in ((first, second), (second, first)):
            texts = [one.text(), other.text()]
            self.assertIs(agree(one, other), wanted)
            self.assertEqual([one.text(), other.text()], texts)

    def test_rows_that_begin_one_another(self):
        for many in range(5):
            for more in range(5):
                self.check(self.journal(self.entries[:many]), self.journal(self.entries[:more]), True)

    def test_rows_with_an_entry_that_differs(self):
        for at, other in ((0, ("ask", "a", "mail", 1, 2)), (1, ("ask", "b", "mail", 2, 4)), (3, ("release", "b", 9))):
            changed = self.entries[:at] + [other] + self.entries[at + 1:]
            for many in range(5):
                for more in range(5):
                    wanted = many <= at or more <= at
                    self.check(self.journal(self.entries[:many]), self.journal(changed[:more]), wanted)

    def test_journals_that_begin_at_different_entries(self):
        changed = [self.entries[0], ("ask", "b", "web", 7, 4)] + self.entries[2:]
        for dropped in range(5):
            for other in range(5):
                self.check(self.journal(self.entries, dropped), self.journal(self.entries, other), True)
                wanted = dropped > 1 or other > 1
                self.check(self.journal(self.entries, dropped), self.journal(changed, other), wanted)

    def test_no_number_in_common(self):
        late = self.journal(self.entries, 3)
        self.assertEqual(late.first_entry(), 3)
        self.check(late, self.journal([("ask", "z", "web", 1, 1)]), True)
        self.check(late, self.journal([("ask", f"z{at}", "web", 1, 1) for at in range(3)]), True)
        self.check(late, self.journal([("ask", f"z{at}", "web", 1, 1) for at in range(4)]), False)
        self.check(late, Journal(), True)
        self.check(Journal(), Journal(), True)

    def test_views_and_snapshots_do_not_matter(self):
        first, _ = journal_with(self.entries[:2] + [VIEW, BOOK] + self.entries[2:])
        second, _ = journal_with([VIEW] + self.entries)
        self.check(first, second, True)
        self.check(first.trimmed(), second, True)

    def test_drawn_journals(self):
        seen = {True: 0, False: 0}
        for seed in range(200):
            draw = random.Random(f"agree {seed}")
            book, row = draw_book(draw, 2), draw_entries(draw, 10)
            journals = []
            for _ in range(2):
                mine = row[:draw.randint(0, len(row))]
                if draw.random() < 0.5 and mine:
                    at = draw.randrange(len(mine))
                    mine[at] = mine[at][:-1] + (mine[at + 1][-1] if at + 1 < len(mine) else mine[at][-1] + 1,)
                journal, _ = journal_with(mine[:draw.randint(0, len(mine))])
                if draw.random() < 0.7:
                    journal = shortened(journal, book)
                start = journal.first_entry() + len(journal.entries())
                for entry in mine[start:]:
                    journal.write(entry)
                journals.append(journal)
            wanted = holds_by_numbers(*journals)
            seen[wanted] += 1
            self.check(journals[0], journals[1], wanted)
        self.assertGreater(min(seen.values()), 20)


class Beginnings(unittest.TestCase):
    row = [("ask", "a", "mail", 1, 3), ("release", "a", 4), ("ask", "b", "web", 2, 4)]

    def test_any_number_of_entries_in_common(self):
        for many in range(4):
            for more in range(4):
                first, second = self.row[:many], self.row[:more]
                self.assertEqual(common_beginning(first, second), self.row[:min(many, more)])
                self.assertIs(is_beginning(first, second), many <= more)

    def test_rows_that_part(self):
        for at in range(3):
            other = self.row[:at] + [("ask", "x", "mail", 1, 9)] + self.row[at + 1:]
            for many in range(4):
                for more in range(4):
                    first, second = self.row[:many], other[:more]
                    self.assertEqual(common_beginning(first, second), self.row[:min(many, more, at)])
                    self.assertEqual(common_beginning(second, first), self.row[:min(many, more, at)])
                    self.assertIs(is_beginning(first, second), many <= min(at, more))

    def test_what_is_the_same_behind_a_difference_does_not_count(self):
        other = [("ask", "x", "mail", 1, 3)] + self.row[1:]
        self.assertEqual(common_beginning(self.row, other), [])
        self.assertIs(is_beginning(self.row, other), False)

    def test_what_is_passed_stays_and_what_is_returned_may_be_changed(self):
        first, second = list(self.row), list(self.row)
        found = common_beginning(first, second)
        found.append(("release", "b", 5))
        found[0] = None
        is_beginning(first, second)
        self.assertEqual((first, second), (self.row, self.row))
        empty = common_beginning(first, [])
        empty.append(1)
        self.assertEqual(common_beginning(first, []), [])


if __name__ == "__main__":
    unittest.main()
