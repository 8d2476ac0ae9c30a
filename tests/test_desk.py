"""The desk: changes, undo and redo, what is decided, other books and trials (points 71 to 75)."""

import random
import unittest

from drawing import GROUPS, draw_book, draw_limit
from limitweave.books import Book
from limitweave.desk import Desk, Trial
from limitweave.errors import (
    EarlierMoment, InvalidBook, InvalidLimit, InvalidName, InvalidRequest, KeyKnown, LimitError, NothingToRedo,
    NothingToUndo, TooLarge, UnknownKey, UnknownName,
)
from limitweave.keeper import Answer, Keeper
from limitweave.replays import answers_for, keeper_of

FEW = ("few", "window", (), (5, 10))
JOBS = ("jobs", "held", ("mail",), (6,))
BOOK = Book([FEW, JOBS])
WIDE = ("few", "window", (), (50, 10))


class DeskTest(unittest.TestCase):
    def state(self, desk):
        """All that a desk tells of itself but for `decided`."""
        return (desk.book_now().limits, desk.entries_now(), [answer.parts() for answer in desk.answers_now()])

    def check_state(self, desk, book, row):
        answers = [answer.parts() for answer in answers_for(book, row)]
        self.assertEqual(self.state(desk), (book.limits, row, answers))

    def states(self, desk, step, back):
        """All states to which undo or redo leads, the present one first. The desk stays as it is."""
        states = [self.state(desk)]
        try:
            while True:
                step()
                states.append(self.state(desk))
        except (NothingToUndo, NothingToRedo):
            pass
        for _ in states[1:]:
            back()
        return states

    def undone(self, desk):
        return self.states(desk, desk.undo, desk.redo)

    def redone(self, desk):
        return self.states(desk, desk.redo, desk.undo)

    def check_raises(self, desk, error, call, *given, attribute=None):
        before, decided = (self.undone(desk), self.redone(desk)), desk.decided
        with self.assertRaises(error) as caught:
            call(*given)
        self.assertIs(caught.exception.__class__, error)
        if attribute is not None:
            self.assertEqual(getattr(caught.exception, attribute[0]), attribute[1])
        self.assertEqual((self.undone(desk), self.redone(desk)), before)
        self.assertEqual(desk.decided, decided)


class Entries(DeskTest):
    def test_a_new_desk(self):
        desk = Desk(BOOK)
        self.assertTrue(desk.book_now().same_as(BOOK))
        self.assertEqual((desk.entries_now(), desk.answers_now(), desk.decided), ([], [], 0))
        self.assertEqual(desk.turned(Book([WIDE])), [])
        self.assertEqual(desk.decided, 0)

    def test_answers_and_releases(self):
        desk = Desk(BOOK)
        answer = desk.ask("a", "mail", 4, 3)
        self.assertIsInstance(answer, Answer)
        self.assertEqual(answer.parts(), ("a", 3, (), 3))
        self.assertEqual(desk.ask("b", "mail", 3, 4).parts(), ("b", 4, ("few", "jobs"), None))
        self.assertEqual(desk.ask("c", "web", 3, 4).parts(), ("c", 4, ("few",), 13))
        self.assertIs(desk.release("b", 5), False)
        self.assertIs(desk.release("a", 6), True)
        self.assertIs(desk.release("a", 6), False)
        row = [
            ("ask", "a", "mail", 4, 3), ("ask", "b", "mail", 3, 4), ("ask", "c", "web", 3, 4), ("release", "b", 5),
            ("release", "a", 6), ("release", "a", 6),
        ]
        self.check_state(desk, BOOK, row)
        self.assertTrue(all(isinstance(answer, Answer) for answer in desk.answers_now()))
        self.assertEqual(desk.decided, 6)

    def test_errors_of_requests(self):
        desk = Desk(BOOK)
        for given in (("", "mail", 1, 3), ("a", "M", 1, 3), ("a", "mail", 0, 3), ("a", "mail", 1001, 3),
                      ("a", "mail", 1, -1), ("a", "mail", 1, 1000000001)):
            self.check_raises(desk, InvalidRequest, desk.ask, *given)
        desk.ask("a", "mail", 1, 3)
        self.check_raises(desk, InvalidRequest, desk.ask, "a", "mail", 0, 2)
        self.check_raises(desk, KeyKnown, desk.ask, "a", "mail", 1, 2, attribute=("key", "a"))
        self.check_raises(desk, EarlierMoment, desk.ask, "b", "mail", 1, 2, attribute=("moment", 3))
        self.check_state(desk, BOOK, [("ask", "a", "mail", 1, 3)])

    def test_errors_of_releases(self):
        desk = Desk(BOOK)
        desk.ask("a", "mail", 1, 3)
        self.check_raises(desk, InvalidRequest, desk.release, "a", -1)
        self.check_raises(desk, InvalidRequest, desk.release, "z", 1000000001)
        self.check_raises(desk, UnknownKey, desk.release, "z", 2, attribute=("key", "z"))
        self.check_raises(desk, EarlierMoment, desk.release, "a", 2, attribute=("moment", 3))

    def test_two_thousand_requests(self):
        desk = Desk(BOOK)
        for at in range(2000):
            desk.ask(f"k{at}", "web", 1, at)
        for turn in range(2):
            with self.assertRaises(TooLarge):
                desk.ask("one-more", "web", 1, 3000)
            with self.assertRaises(EarlierMoment):
                desk.ask("one-more", "web", 1, 3)
            with self.assertRaises(KeyKnown):
                desk.ask("k3", "web", 1, 3000)
            self.assertEqual(desk.decided, 2000 + turn)
            self.assertIs(desk.release("k0", 3000), turn == 0)
        self.assertEqual(len(desk.entries_now()), 2002)
        desk.undo()
        desk.undo()
        desk.undo()
        self.assertTrue(desk.ask("one-more", "web", 1, 3000).is_let)

    def test_what_is_returned_may_be_changed(self):
        desk = Desk(BOOK)
        desk.ask("a", "mail", 6, 3)
        desk.entries_now().clear()
        desk.answers_now().clear()
        desk.turned(Book([WIDE])).clear()
        self.check_state(desk, BOOK, [("ask", "a", "mail", 6, 3)])
        self.assertEqual(desk.turned(Book([WIDE])), ["a"])

    def test_two_desks_do_not_touch_each_other(self):
        first, second = Desk(BOOK), Desk(BOOK)
        first.ask("a", "mail", 1, 3)
        first.set_limit(WIDE)
        self.check_state(second, BOOK, [])
        self.assertEqual((first.decided, second.decided), (2, 0))
        with self.assertRaises(NothingToUndo):
            second.undo()


class Books(DeskTest):
    def test_the_whole_row_is_decided_anew(self):
        desk = Desk(BOOK)
        for at, key in enumerate("abcd"):
            desk.ask(key, "web", 3, at)
        self.assertEqual([answer.is_let for answer in desk.answers_now()], [True, False, False, False])
        row = desk.entries_now()
        self.assertIsNone(desk.set_limit(("few", "window", (), (6, 10))))
        self.assertEqual([answer.is_let for answer in desk.answers_now()], [True, True, False, False])
        desk.set_limit(("gap", "gap", (), (2,)))
        self.assertEqual([answer.is_let for answer in desk.answers_now()], [True, False, True, False])
        self.assertIsNone(desk.drop_limit("few"))
        self.assertEqual(desk.answers_now()[3].lacking, ("gap",))
        self.check_state(desk, Book([JOBS, ("gap", "gap", (), (2,))]), row)
        self.assertEqual(desk.ask("e", "web", 9, 4).lacking, ())

    def test_errors_of_limits(self):
        desk = Desk(BOOK)
        desk.ask("a", "mail", 1, 3)
        self.check_raises(desk, InvalidName, desk.set_limit, ("Few", "window", (), (5, 10)))
        self.check_raises(desk, InvalidLimit, desk.set_limit, ("few", "window", (), (5, 0)))
        self.check_raises(desk, UnknownName, desk.drop_limit, "none", attribute=("name", "none"))
        for at in range(6):
            desk.set_limit((f"l{at}", "gap", (), (1,)))
        self.check_raises(desk, InvalidBook, desk.set_limit, ("ninth", "gap", (), (1,)))
        desk.set_limit(("l3", "gap", (), (2,)))
        for name in ("l0", "l1", "l2", "l3", "l4", "l5", "few"):
            desk.drop_limit(name)
        self.check_raises(desk, InvalidBook, desk.drop_limit, "jobs")
        self.check_raises(desk, UnknownName, desk.drop_limit, "few", attribute=("name", "few"))

    def test_turned(self):
        desk = Desk(BOOK)
        for at, (key, group, cost) in enumerate((("a", "web", 3), ("b", "mail", 3), ("c", "mail", 2), ("d", "web", 9))):
            desk.ask(key, group, cost, at)
        row = desk.entries_now()
        self.assertEqual(desk.turned(BOOK), [])
        self.assertEqual(desk.turned(Book([WIDE, JOBS])), ["b", "d"])
        # One key is let in by the other book alone, and one by the present book alone.
        self.assertEqual(desk.turned(Book([("few", "window", ("mail",), (4, 10))])), ["b", "c", "d"])
        self.assertEqual(desk.turned(Book([("none", "held", (), (0,))])), ["a", "c"])
        self.check_state(desk, BOOK, row)
        desk.undo()
        self.assertEqual(desk.turned(Book([WIDE, JOBS])), ["b"])

    def test_turned_is_no_change(self):
        desk = Desk(BOOK)
        desk.ask("a", "mail", 6, 3)
        desk.undo()
        desk.turned(Book([WIDE]))
        desk.redo()
        self.assertEqual(desk.turned(Book([WIDE])), ["a"])
        desk.undo()
        with self.assertRaises(NothingToUndo):
            desk.undo()


class UndoAndRedo(DeskTest):
    def test_nothing_to_undo_or_to_redo(self):
        desk = Desk(BOOK)
        self.check_raises(desk, NothingToUndo, desk.undo)
        self.check_raises(desk, NothingToRedo, desk.redo)
        desk.ask("a", "mail", 1, 3)
        self.check_raises(desk, NothingToRedo, desk.redo)
        self.assertIsNone(desk.undo())
        self.check_raises(desk, NothingToUndo, desk.undo)
        self.assertIsNone(desk.redo())
        self.check_raises(desk, NothingToRedo, desk.redo)

    def test_a_change_that_leaves_all_as_it_is(self):
        desk = Desk(BOOK)
        desk.set_limit(FEW)
        desk.set_limit(FEW)
        desk.undo()
        desk.undo()
        self.check_raises(desk, NothingToUndo, desk.undo)
        desk.redo()
        desk.set_limit(FEW)
        self.check_raises(desk, NothingToRedo, desk.redo)

    def test_a_call_that_raises_discards_nothing(self):
        desk = Desk(BOOK)
        desk.ask("a", "mail", 1, 3)
        desk.ask("b", "mail", 1, 5)
        desk.undo()
        for call in (
            lambda: desk.ask("a", "mail", 1, 3), lambda: desk.ask("c", "mail", 1, 2), lambda: desk.release("z", 9),
            lambda: desk.set_limit(("few", "gap", (), (0,))), lambda: desk.drop_limit("none"),
            lambda: desk.change_all([("drop", "few"), ("drop", "jobs")]), lambda: desk.change_all([]),
            lambda: desk.turned(Book([WIDE])), lambda: desk.answers_now(), lambda: desk.entries_now(),
        ):
            try:
                call()
            except LimitError:
                pass
            self.check_state(desk, BOOK, [("ask", "a", "mail", 1, 3)])
        desk.redo()
        self.check_state(desk, BOOK, [("ask", "a", "mail", 1, 3), ("ask", "b", "mail", 1, 5)])


class Model:
    """A desk as a plain list of states, and of all pairs of a book and a beginning of a row that were needed."""

    def __init__(self, book):
        self.states, self.at, self.needed = [(book, [])], 0, set()

    def now(self):
        return self.states[self.at]

    def need(self, book, row):
        self.needed |= {(tuple(book.limits), tuple(row[:end])) for end in range(1, len(row) + 1)}

    def change(self, book, row):
        self.need(book, row)
        self.states = self.states[:self.at + 1] + [(book, row)]
        self.at += 1

    def put(self, entry):
        book, row = self.now()
        keeper = keeper_of(book, row)
        if entry[0] == "ask":
            keeper.ask(entry[1:4], entry[4])
        else:
            keeper.release(entry[1], entry[2])
        self.change(book, row + [entry])

    def do(self, deed):
        book, row = self.now()
        if deed[0] == "all":
            kept = (self.states, self.at)
            try:
                for one in deed[1]:
                    self.do(one)
            except LimitError:
                self.states, self.at = kept
                raise
        elif deed[0] == "limit":
            self.change(book.with_limit(deed[1]), row)
        elif deed[0] == "drop":
            self.change(book.without_limit(deed[1]), row)
        elif deed[0] == "turned":
            self.need(deed[1], row)
        elif deed[0] == "undo":
            if self.at == 0:
                raise NothingToUndo("none")
            self.at -= 1
        elif deed[0] == "redo":
            if self.at + 1 == len(self.states):
                raise NothingToRedo("none")
            self.at += 1
        else:
            self.put(deed)


def do(desk, deed):
    """Do the same at a desk."""
    word, given = deed[0], deed[1:]
    calls = {
        "ask": desk.ask, "release": desk.release, "limit": desk.set_limit, "drop": desk.drop_limit, "undo": desk.undo,
        "redo": desk.redo, "turned": desk.turned, "all": desk.change_all,
    }
    calls[word](*given)


def draw_deed(draw, last, depth=0):
    """A deed behind a row that ends at the moment `last`, most of the time one that raises nothing."""
    word = draw.choice(("ask", "ask", "ask", "ask", "release", "release", "limit", "drop", "undo", "undo", "redo",
                        "turned", "all"))
    if depth and word in ("undo", "redo", "turned"):
        word = "ask"
    moment = max(0, last + draw.choice((-1, 0, 0, 0, 1, 1, 2, 6)))
    if word == "ask":
        return (word, f"k{draw.randint(0, 15)}", draw.choice(GROUPS), draw.choice((0, 1, 2, 2, 2, 4)), moment)
    if word == "release":
        return (word, f"k{draw.randint(0, 15)}", moment)
    if word == "limit":
        kind = draw.choice(("window", "held", "held", "pool", "gap", "bucket"))
        return (word, draw_limit(draw, draw.choice(("x", "y", "z")), kind))
    if word == "drop":
        return (word, draw.choice(("x", "y", "z", "few")))
    if word == "turned":
        return (word, draw_book(draw, 2))
    if word == "all":
        many = draw.randint(0, 3) if depth < 4 else 0
        return (word, [draw_deed(draw, last, depth + 1) for _ in range(many)])
    return (word,)


class Drawn(DeskTest):
    def test_drawn_deeds(self):
        raised = {}
        for seed in range(150):
            draw = random.Random(f"desk {seed}")
            book = (Book([FEW]), Book([("x", "held", (), (5,))]), draw_book(draw, 2))[seed % 3]
            desk, model = Desk(book), Model(book)
            for _ in range(40):
                deed = draw_deed(draw, (model.now()[1] or [(0,)])[-1][-1])
                errors = []
                for call in (lambda: model.do(deed), lambda: do(desk, deed)):
                    try:
                        call()
                        errors.append((None, {}))
                    except LimitError as error:
                        errors.append((error.__class__.__name__, vars(error)))
                self.assertEqual(errors[0], errors[1], (seed, deed))
                raised[errors[0][0]] = raised.get(errors[0][0], 0) + 1
                self.check_state(desk, *model.now())
                self.assertEqual(desk.decided, len(model.needed), (seed, deed))
            self.assertEqual(len(self.undone(desk)), model.at + 1)
            self.assertEqual(len(self.redone(desk)), len(model.states) - model.at)
        for name in ("KeyKnown", "UnknownKey", "EarlierMoment", "NothingToUndo", "NothingToRedo", "InvalidRequest",
                     "UnknownName", "InvalidBook", None):
            self.assertGreater(raised[name], 10, name)


class Decided(DeskTest):
    def test_each_call(self):
        desk = Desk(BOOK)
        counts = []
        for call in (
            lambda: desk.ask("a", "mail", 1, 3), lambda: desk.ask("b", "mail", 1, 5), lambda: desk.release("a", 6),
            desk.undo, desk.undo, lambda: desk.ask("b", "mail", 1, 5), lambda: desk.ask("c", "mail", 1, 5),
            desk.undo, desk.undo, desk.redo, lambda: desk.release("a", 6), lambda: desk.set_limit(WIDE),
            lambda: desk.set_limit(FEW), lambda: desk.turned(Book([WIDE, JOBS])), lambda: desk.turned(Book([WIDE])),
            lambda: desk.drop_limit("jobs"), lambda: desk.set_limit(WIDE), desk.answers_now, desk.entries_now,
        ):
            call()
            counts.append(desk.decided)
        self.assertEqual(counts, [1, 2, 3, 3, 3, 3, 4, 4, 4, 4, 4, 7, 7, 7, 10, 13, 13, 13, 13])

    def test_books_with_the_same_limits(self):
        desk = Desk(Book([JOBS, FEW]))
        desk.ask("a", "mail", 1, 3)
        desk.turned(Book([FEW, JOBS]))
        desk.set_limit(JOBS)
        self.assertEqual(desk.decided, 1)
        desk.set_limit(("jobs", "held", ("mail", "web"), (6,)))
        self.assertEqual(desk.decided, 2)

    def test_the_same_entry_behind_another_beginning(self):
        desk = Desk(BOOK)
        for first in ("a", "b"):
            desk.ask(first, "mail", 1, 3)
            desk.ask("z", "mail", 1, 4)
            desk.undo()
            desk.undo()
        desk.ask("z", "mail", 1, 4)
        self.assertEqual(desk.decided, 5)

    def test_an_entry_that_another_book_decided(self):
        desk = Desk(BOOK)
        desk.ask("a", "mail", 1, 3)
        desk.undo()
        desk.set_limit(WIDE)
        desk.ask("a", "mail", 1, 3)
        self.assertEqual(desk.decided, 2)
        desk.set_limit(FEW)
        desk.undo()
        desk.undo()
        desk.undo()
        desk.ask("a", "mail", 1, 3)
        self.assertEqual(desk.decided, 2)

    def test_what_was_released_stays_so_behind_an_undo(self):
        desk = Desk(BOOK)
        desk.ask("a", "mail", 6, 3)
        desk.set_limit(WIDE)
        self.assertIs(desk.release("a", 4), True)
        self.assertIs(desk.ask("b", "mail", 6, 5).is_let, True)
        desk.undo()
        self.assertIs(desk.ask("c", "mail", 6, 5).is_let, True)
        self.assertIs(desk.ask("d", "mail", 1, 5).is_let, False)
        desk.undo()
        desk.undo()
        self.assertIs(desk.release("a", 6), False)
        desk.undo()
        desk.undo()
        self.assertIs(desk.ask("e", "mail", 1, 5).is_let, False)

    def test_nothing_is_decided_by_a_call_that_raises(self):
        desk = Desk(BOOK)
        desk.ask("a", "mail", 1, 3)
        self.check_raises(desk, UnknownKey, desk.release, "z", 9)
        self.check_raises(desk, KeyKnown, desk.ask, "a", "mail", 1, 9)
        self.check_raises(desk, UnknownKey, desk.change_all, [("release", "z", 9), ("drop", "few")])
        self.assertEqual(desk.decided, 1)
        with self.assertRaises(InvalidBook):
            desk.change_all([("drop", "few"), ("drop", "jobs")])
        # The first one of these changes was made, and what was decided by it stays.
        self.assertEqual(desk.decided, 2)

    def test_no_entry_is_given_to_a_keeper_twice(self):
        # What a desk decides, it decides with keepers: so as many requests are made to them as it tells.
        made = []
        plain = Keeper.ask

        def ask(keeper, request, moment):
            answer = plain(keeper, request, moment)
            made.append(request[0])
            return answer

        Keeper.ask = ask
        try:
            desk = Desk(BOOK)
            for turn in range(3):
                for at in range(5):
                    desk.ask(f"k{at}", "web", 2, at)
                desk.set_limit(WIDE)
                desk.turned(Book([JOBS]))
                for _ in range(6):
                    desk.undo()
            desk.ask("k0", "web", 2, 0)
            desk.ask("k7", "web", 2, 0)
        finally:
            Keeper.ask = plain
        self.assertEqual((len(made), desk.decided), (16, 16))


class Trials(DeskTest):
    def begin(self):
        desk = Desk(BOOK)
        desk.ask("a", "mail", 1, 3)
        desk.set_limit(WIDE)
        desk.ask("b", "mail", 2, 4)
        desk.ask("c", "mail", 2, 4)
        desk.undo()
        return desk

    def all_of(self, desk):
        return self.undone(desk), self.redone(desk)

    def test_a_block_that_stays(self):
        desk = self.begin()
        trial = desk.trial()
        self.assertIsInstance(trial, Trial)
        with trial as held:
            self.assertIs(held, desk)
            desk.ask("d", "web", 1, 5)
            desk.drop_limit("jobs")
        self.check_state(desk, Book([WIDE]), [
            ("ask", "a", "mail", 1, 3), ("ask", "b", "mail", 2, 4), ("ask", "d", "web", 1, 5),
        ])
        self.assertEqual(len(self.undone(desk)), 6)
        self.check_raises(desk, NothingToRedo, desk.redo)

    def test_a_block_that_an_error_leaves(self):
        for error in (KeyError("x"), InvalidRequest("x"), ValueError("x"), NothingToUndo("x")):
            desk = self.begin()
            before = self.all_of(desk)
            decided = desk.decided
            with self.assertRaises(error.__class__) as caught:
                with desk.trial():
                    desk.undo()
                    desk.undo()
                    desk.ask("d", "web", 1, 5)
                    desk.drop_limit("jobs")
                    raise error
            self.assertIs(caught.exception, error)
            self.assertEqual(self.all_of(desk), before)
            self.assertEqual(desk.decided, decided + 3)
            with desk.trial():
                desk.undo()
                desk.undo()
                desk.ask("d", "web", 1, 5)
            self.assertEqual(desk.decided, decided + 3)

    def test_the_block_begins_where_it_is_entered(self):
        desk = self.begin()
        trial = desk.trial()
        desk.ask("d", "web", 1, 5)
        before = self.all_of(desk)
        with self.assertRaises(UnknownKey):
            with trial:
                desk.ask("e", "web", 1, 5)
                desk.release("z", 9)
        self.assertEqual(self.all_of(desk), before)

    def test_undo_and_redo_in_a_block(self):
        desk = self.begin()
        states = self.undone(desk)
        with desk.trial():
            desk.redo()
            desk.undo()
            desk.undo()
        self.assertEqual(self.state(desk), states[1])
        self.assertEqual(len(self.redone(desk)), 3)

    def test_trials_within_trials(self):
        desk = self.begin()
        before = self.all_of(desk)
        with desk.trial():
            desk.ask("d", "web", 1, 5)
            try:
                with desk.trial():
                    desk.ask("e", "web", 1, 6)
                    with desk.trial():
                        desk.ask("f", "web", 1, 7)
                    desk.drop_limit("none")
            except UnknownName:
                pass
            desk.ask("g", "web", 1, 5)
        self.assertEqual([entry[1] for entry in desk.entries_now()], ["a", "b", "d", "g"])
        desk.undo()
        desk.undo()
        self.assertEqual(self.undone(desk), before[0])
        with self.assertRaises(UnknownName):
            with desk.trial():
                with desk.trial():
                    desk.release("a", 9)
                desk.ask("h", "web", 1, 9)
                desk.drop_limit("none")
        self.assertEqual(self.undone(desk), before[0])
        self.assertEqual([entry[1] for entry in desk.entries_now()], ["a", "b"])
        desk.redo()
        self.assertEqual([entry[1] for entry in desk.entries_now()], ["a", "b", "d"])


GOOD = [
    ("ask", "d", "web", 1, 5), ("release", "a", 6), ("limit", ("gap", "gap", (), (1,))), ("drop", "jobs"),
    ("all", [("ask", "e", "web", 1, 7), ("all", []), ("all", [("limit", FEW), ("release", "d", 8)])]),
    ("ask", "f", "mail", 1, 9),
]
BAD = (
    (("ask", "a", "mail", 1, 9), KeyKnown), (("ask", "new", "mail", 1, 0), EarlierMoment),
    (("ask", "new", "mail", 0, 9), InvalidRequest), (("release", "none", 9), UnknownKey),
    (("limit", ("x", "gap", (), (0,))), InvalidLimit), (("limit", ("X", "gap", (), (1,))), InvalidName),
    (("drop", "none"), UnknownName),
)


class ChangeAll(DeskTest):
    begin = Trials.begin
    all_of = Trials.all_of

    def test_good_changes_each_of_which_can_be_undone(self):
        desk, other = self.begin(), self.begin()
        states = [self.state(desk)]
        deeds = list(GOOD)
        self.assertIsNone(desk.change_all(deeds))
        self.assertEqual(deeds, GOOD)
        other.ask("d", "web", 1, 5)
        states.append(self.state(other))
        for call, given in (
            (other.release, ("a", 6)), (other.set_limit, (("gap", "gap", (), (1,)),)), (other.drop_limit, ("jobs",)),
            (other.ask, ("e", "web", 1, 7)), (other.set_limit, (FEW,)), (other.release, ("d", 8)),
            (other.ask, ("f", "mail", 1, 9)),
        ):
            call(*given)
            states.append(self.state(other))
        self.assertEqual(self.undone(desk)[:9], states[::-1])
        self.assertEqual(self.undone(desk), self.undone(other))
        self.check_raises(desk, NothingToRedo, desk.redo)

    def test_one_that_raises_at_each_place(self):
        for bad, error in BAD:
            for at in range(len(GOOD) + 1):
                desk = self.begin()
                before = self.all_of(desk)
                with self.assertRaises(error) as caught:
                    desk.change_all(GOOD[:at] + [bad] + GOOD[at:])
                self.assertIs(caught.exception.__class__, error)
                self.assertEqual(self.all_of(desk), before)

    def test_one_that_raises_in_a_list_within_a_list(self):
        inner = GOOD[4][1][2][1]
        for bad, error in BAD:
            for at in range(len(inner) + 1):
                desk = self.begin()
                before = self.all_of(desk)
                deeds = GOOD[:4] + [("all", [("ask", "e", "web", 1, 7), ("all", inner[:at] + [bad] + inner[at:])])]
                with self.assertRaises(error):
                    desk.change_all(deeds)
                self.assertEqual(self.all_of(desk), before)

    def test_too_many_requests(self):
        desk = Desk(BOOK)
        deeds = [("ask", f"k{at}", "web", 1, at) for at in range(2001)]
        with self.assertRaises(TooLarge):
            desk.change_all(deeds)
        self.check_state(desk, BOOK, [])
        self.assertEqual(desk.decided, 2000)
        desk.change_all(deeds[:2000])
        self.assertEqual((len(desk.entries_now()), desk.decided), (2000, 2000))

    def test_the_empty_list_is_no_change(self):
        desk = self.begin()
        before = self.all_of(desk)
        desk.change_all([])
        desk.change_all([("all", []), ("all", [("all", [])])])
        self.assertEqual(self.all_of(desk), before)

    def test_lists_nested_twenty_deep(self):
        desk = self.begin()
        deed, bad = ("ask", "d", "web", 1, 5), ("drop", "none")
        for _ in range(20):
            deed, bad = ("all", [deed]), ("all", [bad])
        desk.change_all([deed])
        self.assertEqual(desk.entries_now()[-1], ("ask", "d", "web", 1, 5))
        with self.assertRaises(UnknownName):
            desk.change_all([bad])


if __name__ == "__main__":
    unittest.main()
