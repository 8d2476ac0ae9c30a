"""Point 32: keepers, answers and deeds of rows of entries."""

import random
import unittest

from drawing import draw_book, draw_entries
from limitweave.books import Book
from limitweave.errors import InvalidEntry, TooLarge
from limitweave.keeper import Keeper
from limitweave.replays import answers_for, deeds_of, keeper_of

BOOK = Book([("few", "window", (), (5, 10)), ("jobs", "held", ("mail",), (4,))])
ROW = [
    ("ask", "a", "mail", 4, 3), ("ask", "b", "mail", 1, 3), ("release", "b", 4), ("release", "a", 4),
    ("release", "a", 6), ("ask", "c", "web", 1, 6), ("ask", "d", "web", 9, 6),
]


class Replays(unittest.TestCase):
    def test_a_row(self):
        before = list(ROW)
        self.assertEqual([answer.parts() for answer in answers_for(BOOK, ROW)], [
            ("a", 3, (), 3), ("b", 3, ("jobs",), None), ("c", 6, (), 6), ("d", 6, ("few",), None),
        ])
        self.assertEqual(deeds_of(BOOK, ROW), [
            ("let", "a", "mail", 4, 3), ("release", "a", 4), ("let", "c", "web", 1, 6),
        ])
        keeper = keeper_of(BOOK, ROW)
        self.assertIsInstance(keeper, Keeper)
        self.assertIs(keeper.book, BOOK)
        self.assertEqual(keeper.moment, 6)
        self.assertEqual([row[6] for row in keeper.rows()], [True, False, False, False])
        self.assertEqual(ROW, before)

    def test_the_empty_row(self):
        self.assertEqual(answers_for(BOOK, []), [])
        self.assertEqual(deeds_of(BOOK, []), [])
        self.assertIsNone(keeper_of(BOOK, []).moment)
        self.assertEqual(keeper_of(BOOK, []).rows(), [])

    def test_drawn_rows(self):
        draw = random.Random(32)
        for _ in range(80):
            book, row = draw_book(draw), draw_entries(draw, draw.randint(0, 30))
            keeper, answers, deeds = Keeper(book), [], []
            for entry in row:
                if entry[0] == "ask":
                    answers.append(keeper.ask(entry[1:4], entry[4]))
                    deeds += [("let",) + entry[1:]] if answers[-1].is_let else []
                elif keeper.release(entry[1], entry[2]):
                    deeds.append(entry)
            self.assertEqual(keeper_of(book, row).rows(), keeper.rows())
            self.assertEqual(keeper_of(book, row).moment, keeper.moment)
            self.assertEqual([answer.parts() for answer in answers_for(book, row)], [answer.parts() for answer in answers])
            self.assertEqual(deeds_of(book, row), deeds)

    def test_what_is_no_row(self):
        for number, row in (
            (0, [("ask", "A", "mail", 1, 3)]), (0, [("release", "a", 3)]), (0, [("let", "a", "mail", 1, 3)]), (0, [("ask",)]),
            (1, [("ask", "a", "mail", 1, 3), ("ask", "a", "mail", 1, 3)]), (1, [("ask", "a", "mail", 1, 3), ("release", "a", 2)]),
            (2, [("ask", "a", "mail", 1, 3), ("release", "a", 3), ("release", "b", 3)]), (1, ROW[:1] + [("ask", "z", "mail", 0, 9)]),
            (7, ROW + [("ask", "e", "mail", 1, 1000000001)]),
        ):
            for call in (keeper_of, answers_for, deeds_of):
                with self.assertRaises(InvalidEntry) as caught:
                    call(BOOK, row)
                self.assertEqual(caught.exception.number, number)

    def test_more_than_2000_requests(self):
        row = [("ask", f"k{number}", "web", 1, number) for number in range(2001)]
        self.assertEqual(len(answers_for(BOOK, row[:2000])), 2000)
        self.assertEqual(len(keeper_of(BOOK, row[:2000] + [("release", "k0", 2000)] * 3).rows()), 2000)
        self.assertEqual(len(deeds_of(BOOK, row[:2000])), 1000)
        for call in (keeper_of, answers_for, deeds_of):
            with self.assertRaises(TooLarge):
                call(BOOK, row)
            with self.assertRaises(InvalidEntry) as caught:
                call(BOOK, row + [("ask", "k0", "web", 1, 5000)])
            self.assertEqual(caught.exception.number, 2001)

    def test_lists_are_new(self):
        answers_for(BOOK, ROW).clear()
        deeds_of(BOOK, ROW).clear()
        self.assertEqual(len(answers_for(BOOK, ROW)), 4)
        self.assertEqual(len(deeds_of(BOOK, ROW)), 3)
