"""Points 26 to 31: keepers, against the definitions over whole rows of entries."""

import random
import unittest

import definition
from drawing import draw_book, draw_entries
from limitweave.books import Book
from limitweave.errors import EarlierMoment, InvalidRequest, KeyKnown, TooLarge, UnknownKey
from limitweave.keeper import Answer, Keeper, keeper_of_rows

LAST = 1000000000
HORIZON = 80


class ByDefinition:
    """A keeper that has the deeds only, and goes over all of them for each question."""

    def __init__(self, book):
        self.limits = book.limits
        self.deeds = []
        self.holding = set()

    def ask(self, key, group, cost, moment):
        def lacking_at(tried):
            return [limit[0] for limit in self.limits if not definition.has_room(limit, self.deeds, tried, group, cost)]

        lacking = lacking_at(moment)
        tried = moment
        while tried <= moment + HORIZON and lacking_at(tried):
            tried += 1
        if not lacking:
            self.deeds.append(("let", key, group, cost, moment))
            self.holding.add(key)
        return (key, moment, tuple(lacking), tried if tried <= moment + HORIZON else None)

    def release(self, key, moment):
        if key not in self.holding:
            return False
        self.holding.remove(key)
        self.deeds.append(("release", key, moment))
        return True


def give(keeper, entry):
    """What a keeper answers to an entry, in parts."""
    if entry[0] == "ask":
        return keeper.ask(entry[1:4], entry[4]).parts()
    return keeper.release(entry[1], entry[2])


def state_of(keeper):
    return (keeper.moment, keeper.rows())


BOOK = Book([
    ("few", "window", (), (5, 10)), ("jobs", "held", ("mail", "web"), (4,)), ("near", "gap", ("web",), (3,)),
])


class Decisions(unittest.TestCase):
    def check_row(self, book, entries):
        keeper, plain = Keeper(book), ByDefinition(book)
        self.assertIs(keeper.book, book)
        self.assertIsNone(keeper.moment)
        rows = {}
        for entry in entries:
            told = (book.limits, plain.deeds, entry)
            if entry[0] == "ask":
                answer = keeper.ask(entry[1:4], entry[4])
                self.assertIsInstance(answer, Answer)
                self.assertEqual(answer.parts(), plain.ask(*entry[1:]), told)
                self.assertIs(answer.is_let, answer.lacking == ())
                rows[entry[1]] = entry[1:] + answer.parts()[2:] + (False,)
            else:
                changed = keeper.release(entry[1], entry[2])
                self.assertIs(changed, plain.release(entry[1], entry[2]), told)
                if changed:
                    rows[entry[1]] = rows[entry[1]][:-1] + (True,)
            self.assertEqual(keeper.moment, entry[-1])
            self.assertEqual(keeper.holds(entry[1]), entry[1] in plain.holding)
        self.assertEqual(keeper.rows(), list(rows.values()))

    def test_drawn_books_and_rows(self):
        draw = random.Random(26)
        for _ in range(60):
            self.check_row(draw_book(draw), draw_entries(draw, draw.randint(1, 22)))

    def test_one_word_only(self):
        draw = random.Random(27)
        for _ in range(120):
            self.check_row(draw_book(draw, 1), draw_entries(draw, draw.randint(1, 14)))

    def test_near_the_last_moment(self):
        draw = random.Random(28)
        for _ in range(25):
            book = draw_book(draw, 3)
            self.check_row(book, draw_late(draw))

    def test_earliest_moments(self):
        book = Book([
            ("b", "bucket", (), (4, 5)), ("g", "gap", ("web",), (7,)), ("s", "span", (), (6, 10)), ("w", "window", (), (8, 20)),
        ])
        keeper = Keeper(book)
        self.assertEqual(keeper.ask(("k1", "web", 4), 12).parts(), ("k1", 12, (), 12))
        self.assertEqual(keeper.ask(("k2", "web", 1), 12).parts(), ("k2", 12, ("b", "g"), 19))
        self.assertEqual(keeper.ask(("k3", "mail", 3), 13).parts(), ("k3", 13, ("b", "s"), 27))
        self.assertEqual(keeper.ask(("k4", "mail", 5), 13).parts(), ("k4", 13, ("b", "s", "w"), None))
        self.assertEqual(keeper.ask(("k5", "mail", 9), 13).parts(), ("k5", 13, ("b", "s", "w"), None))
        self.assertEqual(keeper.ask(("k6", "web", 3), 27).parts(), ("k6", 27, (), 27))

    def test_an_earliest_moment_above_all_moments(self):
        keeper = Keeper(Book([("w", "window", (), (1, 1000000)), ("h", "held", ("b",), (1,))]))
        keeper.ask(("k1", "b", 1), LAST)
        self.assertEqual(keeper.ask(("k2", "a", 1), LAST).parts(), ("k2", LAST, ("w",), LAST + 1000000))
        self.assertEqual(keeper.ask(("k3", "b", 1), LAST).parts(), ("k3", LAST, ("h", "w"), None))
        self.assertEqual(keeper.moment, LAST)

    def test_what_no_limit_looks_at_is_let_in(self):
        keeper = Keeper(Book([("h", "held", ("a",), (0,)), ("p", "pool", (), (0, (("b", 0, 0),)))]))
        self.assertEqual(keeper.ask(("k1", "c", 1000), 3).parts(), ("k1", 3, (), 3))
        self.assertEqual(keeper.ask(("k2", "a", 1), 3).parts(), ("k2", 3, ("h",), None))
        self.assertEqual(keeper.ask(("k3", "b", 1), 3).parts(), ("k3", 3, ("p",), None))


def draw_late(draw):
    """A row of entries whose moments are at most the last moment."""
    row = draw_entries(draw, 10, 0, (0, 0, 1, 1, 2))
    behind = LAST - row[-1][-1]
    return [entry[:-1] + (entry[-1] + behind,) for entry in row]


class Moments(unittest.TestCase):
    def test_the_moment_of_the_last_entry(self):
        keeper = Keeper(BOOK)
        self.assertIsNone(keeper.moment)
        keeper.ask(("a", "mail", 4), 0)
        self.assertEqual(keeper.moment, 0)
        self.assertFalse(keeper.ask(("b", "mail", 1), 2).is_let)
        self.assertEqual(keeper.moment, 2)
        self.assertIs(keeper.release("b", 3), False)
        self.assertEqual(keeper.moment, 3)
        self.assertIs(keeper.release("a", 3), True)
        self.assertIs(keeper.release("a", 9), False)
        self.assertEqual(keeper.moment, 9)
        with self.assertRaises(EarlierMoment) as caught:
            keeper.ask(("c", "mail", 1), 8)
        self.assertEqual(caught.exception.moment, 9)
        self.assertTrue(keeper.ask(("c", "mail", 1), 9).is_let)

    def test_a_release_of_what_no_limit_counts_any_more_changes_something(self):
        keeper = Keeper(Book([("few", "window", (), (5, 10))]))
        keeper.ask(("a", "mail", 5), 0)
        self.assertIs(keeper.release("a", 1), True)
        self.assertIs(keeper.release("a", 1), False)
        self.assertFalse(keeper.ask(("b", "mail", 1), 1).is_let)
        self.assertEqual([row[6] for row in keeper.rows()], [True, False])


class Errors(unittest.TestCase):
    def setUp(self):
        self.keeper = Keeper(BOOK)
        self.keeper.ask(("a", "mail", 3), 5)
        self.keeper.ask(("b", "mail", 3), 7)
        self.keeper.release("a", 7)

    def fails(self, error, call, *arguments, **attributes):
        before = state_of(self.keeper)
        with self.assertRaises(error) as caught:
            call(*arguments)
        self.assertIs(caught.exception.__class__, error)
        for name, value in attributes.items():
            self.assertEqual(getattr(caught.exception, name), value)
        self.assertEqual(state_of(self.keeper), before)
        self.assertEqual(self.keeper.twin().ask(("z", "mail", 2), 7).parts(), ("z", 7, (), 7))

    def test_ask(self):
        for request, moment in (
            (("A", "mail", 1), 9), (("", "mail", 1), 9), (("c" * 21, "mail", 1), 9), (("c", "m-", 1), 9), (("c", "", 1), 9),
            (("c", "mail", 0), 9), (("c", "mail", 1001), 9), (("c", "mail", -1), 9), (("c", "mail", 1), -1),
            (("c", "mail", 1), LAST + 1),
        ):
            self.fails(InvalidRequest, self.keeper.ask, request, moment)
        self.fails(KeyKnown, self.keeper.ask, ("a", "mail", 3), 9, key="a")
        self.fails(KeyKnown, self.keeper.ask, ("b", "web", 1), 9, key="b")
        self.fails(EarlierMoment, self.keeper.ask, ("c", "mail", 1), 6, moment=7)

    def test_which_error_of_ask_comes_first(self):
        self.fails(InvalidRequest, self.keeper.ask, ("a", "mail", 0), 9)
        self.fails(InvalidRequest, self.keeper.ask, ("a", "mail", 1), -1)
        self.fails(InvalidRequest, self.keeper.ask, ("c", "mail", 0), 1)
        self.fails(KeyKnown, self.keeper.ask, ("a", "mail", 1), 1, key="a")

    def test_release(self):
        self.fails(InvalidRequest, self.keeper.release, "b", -1)
        self.fails(InvalidRequest, self.keeper.release, "b", LAST + 1)
        self.fails(UnknownKey, self.keeper.release, "c", 9, key="c")
        self.fails(UnknownKey, self.keeper.release, "No key!", 9, key="No key!")
        self.fails(EarlierMoment, self.keeper.release, "b", 6, moment=7)
        self.fails(EarlierMoment, self.keeper.release, "a", 0, moment=7)

    def test_which_error_of_release_comes_first(self):
        self.fails(InvalidRequest, self.keeper.release, "c", -1)
        self.fails(UnknownKey, self.keeper.release, "c", 1, key="c")

    def test_what_is_asked_of_an_unknown_key(self):
        for key in ("c", "", "A b"):
            self.fails(UnknownKey, self.keeper.answer_of, key, key=key)
            self.fails(UnknownKey, self.keeper.holds, key, key=key)
            self.assertIs(self.keeper.knows(key), False)

    def test_the_request_2001(self):
        keeper = Keeper(Book([("w", "window", (), (3, 5))]))
        for number in range(2000):
            keeper.ask((f"k{number}", "a", 1), number // 8)
        before = state_of(keeper)
        with self.assertRaises(TooLarge):
            keeper.ask(("more", "a", 1), 300)
        self.assertEqual(state_of(keeper), before)
        self.assertIs(keeper.knows("more"), False)
        for request, moment, error in (
            (("k3", "a", 1), 300, KeyKnown), (("more", "a", 1), 3, EarlierMoment), (("more", "a", 0), 300, InvalidRequest),
        ):
            with self.assertRaises(error):
                keeper.ask(request, moment)
        self.assertIs(keeper.release("k0", 300), True)
        self.assertEqual(len(keeper.rows()), 2000)
        twin = keeper_of_rows(keeper.book, keeper.moment, keeper.rows())
        with self.assertRaises(TooLarge):
            twin.ask(("more", "a", 1), 300)


class Questions(unittest.TestCase):
    def test_knows_holds_and_answers(self):
        keeper = Keeper(BOOK)
        answers = [keeper.ask(("a", "mail", 3), 5), keeper.ask(("b", "mail", 3), 7)]
        self.assertEqual([keeper.knows("a"), keeper.knows("b"), keeper.knows("c")], [True, True, False])
        self.assertEqual([keeper.holds("a"), keeper.holds("b")], [True, False])
        for answer in answers:
            self.assertEqual(keeper.answer_of(answer.key).parts(), answer.parts())
        keeper.release("a", 9)
        self.assertIs(keeper.holds("a"), False)
        self.assertEqual(keeper.answer_of("a").parts(), ("a", 5, (), 5))
        self.assertIs(keeper.answer_of("a").is_let, True)

    def test_rows_are_new(self):
        keeper = Keeper(BOOK)
        keeper.ask(("a", "mail", 3), 5)
        self.assertEqual(keeper.rows(), [("a", "mail", 3, 5, (), 5, False)])
        keeper.rows().clear()
        self.assertEqual(len(keeper.rows()), 1)
        answer = keeper.answer_of("a")
        answer.lacking = ("few",)
        self.assertEqual(keeper.answer_of("a").lacking, ())


class Copies(unittest.TestCase):
    def test_twins_and_keepers_of_rows_answer_alike(self):
        draw = random.Random(31)
        for _ in range(150):
            book = draw_book(draw)
            entries = draw_entries(draw, draw.randint(0, 30))
            keeper = Keeper(book)
            for entry in entries:
                give(keeper, entry)
            before = state_of(keeper)
            rows = keeper.rows()
            copies = [keeper.twin(), keeper_of_rows(Book(book.limits), keeper.moment, rows), keeper.twin().twin()]
            rows.clear()
            keys = [entry[1] for entry in entries if entry[0] == "ask"]
            first = entries[-1][-1] if entries else 0
            more = [
                ("release", draw.choice(keys), entry[-1]) if keys and draw.random() < 0.4 else entry
                for entry in draw_entries(draw, 15, first, stem="m") if entry[0] == "ask"
            ]
            for copy in copies:
                self.assertEqual(state_of(copy), before)
            told = [[give(copy, entry) for entry in more] for copy in copies]
            self.assertEqual(told[1:], told[:1] * 2)
            self.assertEqual(state_of(keeper), before)
            self.assertEqual([give(keeper, entry) for entry in more], told[0])
            for copy in copies:
                self.assertEqual(state_of(copy), state_of(keeper))

    def test_a_twin_goes_on_by_itself(self):
        keeper = Keeper(BOOK)
        keeper.ask(("a", "mail", 3), 5)
        twin = keeper.twin()
        self.assertIs(twin.book, BOOK)
        twin.release("a", 6)
        twin.ask(("b", "mail", 2), 6)
        self.assertEqual(keeper.rows(), [("a", "mail", 3, 5, (), 5, False)])
        self.assertEqual(keeper.moment, 5)
        self.assertTrue(keeper.ask(("c", "web", 1), 6).is_let)
        self.assertIs(twin.knows("c"), False)

    def test_a_keeper_of_no_rows(self):
        keeper = keeper_of_rows(BOOK, None, [])
        self.assertEqual((keeper.moment, keeper.rows()), (None, []))
        self.assertIs(keeper.book, BOOK)
        self.assertTrue(keeper.ask(("a", "mail", 3), 0).is_let)

    def test_the_moment_may_be_later_than_all_rows(self):
        keeper = keeper_of_rows(BOOK, 40, [("a", "mail", 3, 5, (), 5, True)])
        with self.assertRaises(EarlierMoment) as caught:
            keeper.ask(("b", "mail", 3), 39)
        self.assertEqual(caught.exception.moment, 40)
        self.assertIs(keeper.release("a", 40), False)

    def test_nothing_is_decided_by_the_rows(self):
        rows = [("a", "mail", 9, 5, (), 5, False), ("b", "mail", 1, 5, ("jobs",), 77, False)]
        keeper = keeper_of_rows(BOOK, 5, rows)
        self.assertEqual(keeper.rows(), rows)
        self.assertEqual(keeper.answer_of("b").parts(), ("b", 5, ("jobs",), 77))
