"""Points 3 and 11 and the class Book."""

import itertools
import unittest

from limitweave.books import Book
from limitweave.errors import InvalidBook, InvalidLimit, InvalidName, UnknownName

DAY = ("day", "window", (), (100, 86400))
HOUR = ("hour", "span", ("mail",), (10, 3600))
POOL = ("pool", "pool", (), (10, (("mail", 2, 5), ("web", 0, 9))))
SLOW = ("slow", "gap", ("print", "web"), (3,))
FOUR = [DAY, HOUR, POOL, SLOW]
NINE = [(f"n{place}", "held", (), (place,)) for place in range(9)]


class Made(unittest.TestCase):
    def test_order(self):
        for limits in itertools.permutations(FOUR):
            book = Book(list(limits))
            self.assertEqual(book.limits, FOUR)
            self.assertEqual(book.limit_names, ["day", "hour", "pool", "slow"])

    def test_names_are_ordered_as_strings(self):
        names = ["10", "2", "a", "ab", "b", "z9", "za"]
        book = Book([(name, "held", (), (1,)) for name in reversed(names)])
        self.assertEqual(book.limit_names, names)

    def test_how_many(self):
        for many in range(1, 9):
            self.assertEqual(Book(NINE[:many]).limits, NINE[:many])
        for limits in ([], NINE):
            with self.assertRaises(InvalidBook):
                Book(limits)

    def test_a_name_twice(self):
        for limits in ([DAY, DAY], [DAY, HOUR, ("day", "gap", (), (3,))]):
            with self.assertRaises(InvalidBook):
                Book(limits)

    def test_the_first_wrong_limit_tells_the_error(self):
        no_name, no_limit = ("Day", "gap", (), (3,)), ("day", "gap", (), (0,))
        for limits, error in (
            ([DAY, no_name, no_limit], InvalidName),
            ([DAY, no_limit, no_name], InvalidLimit),
            ([DAY, DAY, no_limit], InvalidLimit),
            (NINE + [no_name], InvalidName),
            ([()], InvalidLimit),
        ):
            with self.assertRaises(error):
                Book(limits)


class Lists(unittest.TestCase):
    def test_what_is_handed_in_is_not_modified(self):
        limits = [SLOW, DAY]
        Book(limits)
        self.assertEqual(limits, [SLOW, DAY])

    def test_what_is_handed_in_may_change(self):
        limits = [SLOW, DAY]
        book = Book(limits)
        limits.append(HOUR)
        limits[0] = POOL
        self.assertEqual(book.limits, [DAY, SLOW])

    def test_what_is_returned_may_change(self):
        book = Book(FOUR)
        book.limits.clear()
        book.limit_names.append("x")
        book.limits_for("mail").clear()
        self.assertEqual(book.limits, FOUR)
        self.assertEqual(book.limit_names, ["day", "hour", "pool", "slow"])
        self.assertEqual(book.limits_for("mail"), [DAY, HOUR, POOL])
        self.assertIsNot(book.limits, book.limits)
        self.assertIsNot(book.limit_names, book.limit_names)


class Methods(unittest.TestCase):
    def test_limit_named(self):
        book = Book(FOUR)
        for limit in FOUR:
            self.assertEqual(book.limit_named(limit[0]), limit)
        for name in ("", "da", "days", "Day", "window", "mail"):
            with self.assertRaises(UnknownName) as caught:
                book.limit_named(name)
            self.assertEqual(caught.exception.name, name)

    def test_limits_for(self):
        book = Book([SLOW, POOL, HOUR, DAY])
        self.assertEqual(book.limits_for("mail"), [DAY, HOUR, POOL])
        self.assertEqual(book.limits_for("web"), [DAY, POOL, SLOW])
        self.assertEqual(book.limits_for("print"), [DAY, SLOW])
        self.assertEqual(book.limits_for("other"), [DAY])
        self.assertEqual(Book([HOUR]).limits_for("other"), [])

    def test_with_limit_in_addition(self):
        book = Book([SLOW, DAY])
        self.assertEqual(book.with_limit(HOUR).limits, [DAY, HOUR, SLOW])
        self.assertEqual(book.limits, [DAY, SLOW])

    def test_with_limit_instead(self):
        book = Book(FOUR)
        other = ("hour", "gap", (), (3,))
        self.assertEqual(book.with_limit(other).limits, [DAY, other, POOL, SLOW])
        self.assertEqual(book.with_limit(HOUR).limits, FOUR)
        self.assertEqual(book.limits, FOUR)
        full = Book(NINE[:8])
        self.assertEqual(full.with_limit(("n3", "gap", (), (3,))).limits[3], ("n3", "gap", (), (3,)))

    def test_with_limit_raises(self):
        full = Book(NINE[:8])
        for limit, error in (
            (NINE[8], InvalidBook),
            (("Day", "gap", (), (3,)), InvalidName),
            (("day", "gap", (), (0,)), InvalidLimit),
            (("n1", "gap", (), (0,)), InvalidLimit),
            ((), InvalidLimit),
        ):
            with self.assertRaises(error):
                full.with_limit(limit)
        self.assertEqual(full.limits, NINE[:8])

    def test_without_limit(self):
        book = Book(FOUR)
        self.assertEqual(book.without_limit("hour").limits, [DAY, POOL, SLOW])
        self.assertEqual(book.limits, FOUR)

    def test_without_limit_raises(self):
        with self.assertRaises(UnknownName) as caught:
            Book(FOUR).without_limit("week")
        self.assertEqual(caught.exception.name, "week")
        with self.assertRaises(InvalidBook):
            Book([DAY]).without_limit("day")
        with self.assertRaises(UnknownName):
            Book([DAY]).without_limit("hour")

    def test_same_as(self):
        book = Book(FOUR)
        self.assertIs(book.same_as(book), True)
        self.assertIs(book.same_as(Book([SLOW, POOL, HOUR, DAY])), True)
        self.assertIs(book.same_as(Book(FOUR[:3])), False)
        self.assertIs(Book(FOUR[:3]).same_as(book), False)
        self.assertIs(book.same_as(book.with_limit(("slow", "gap", ("print", "web"), (4,)))), False)
        self.assertIs(book.same_as(book.with_limit(("slow", "gap", ("print",), (3,)))), False)
        self.assertIs(Book([DAY]).same_as(Book([("days",) + DAY[1:]])), False)
