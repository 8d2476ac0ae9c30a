"""Points 23 and 25: `check_parting`, and rows that are too large, or just not."""

import itertools
import random
import unittest

from test_idle import WORDS, is_parting
from limitweave.books import check_entries, check_limit
from limitweave.errors import TooLarge
from limitweave.idle import check_parting, idle_beside, parting_row
from limitweave.supply import first_multiple

TOP = 1000000
LAST = 1000000000


class CheckParting(unittest.TestCase):
    def says(self, expected, limit, other, row):
        before = list(row)
        self.assertIs(check_parting(limit, other, row), expected, row)
        self.assertEqual(row, before)

    def test_one_thing_changed(self):
        limit, other = ("w", "window", ("a", "b"), (5, 10)), ("b", "bucket", (), (4, 2))
        row = [("ask", "x", "a", 4, 7), ("ask", "y", "b", 1, 9), ("ask", "z", "a", 1, 11)]
        self.assertTrue(is_parting(limit, other, row))
        self.says(True, limit, other, row)
        for wrong in (
            [], row[:1], row[:2], row[1:], row[:1] + row[2:], row + [("ask", "u", "a", 1, 40)],
            row[:2] + [row[1]] + row[2:], row + [("release", "x", 11)], row + row[2:], [row[1], row[0], row[2]],
            row[:2] + [("ask", "z", "a", 1, 10)], row[:2] + [("ask", "z", "a", 1, 17)], row[:2] + [("ask", "z", "a", 1, 8)],
            row[:2] + [("ask", "z", "a", 2, 11)], row[:2] + [("ask", "z", "c", 1, 11)], row[:2] + [("ask", "x", "a", 1, 11)],
            row[:2] + [("ask", "z", "A", 1, 11)], row[:2] + [("ask", "z", "", 1, 11)], row[:2] + [("ask", "Z", "a", 1, 11)],
            row[:2] + [("ask", "z", "a", 0, 11)], [("ask", "x", "c", 4, 7)] + row[1:], [("ask", "x", "a", 5, 7)] + row[1:],
            [("ask", "x", "a", 3, 7)] + row[1:], [("ask", "x", "a", 4, 8)] + row[1:], [("ask", "x", "a", 4, 0)] + row[1:],
            [("release", "x", 3)] + row, row[:2] + [("release", "z", 11)] + row[2:], row[:2] + [("ask", "z", "a", 1, -1)],
        ):
            self.says(False, limit, other, wrong)
        for right in (
            row[:2] + [("release", "x", 9)] + row[2:], row[:2] + [("ask", "z", "b", 1, 16)],
            [("ask", "v", "free", 1, 0)] + row, [("ask", "x", "b", 4, 7)] + row[1:],
        ):
            self.assertTrue(is_parting(limit, other, right))
            self.says(True, limit, other, right)

    def test_the_limit_must_not_break_earlier(self):
        limit, other = ("g", "gap", (), (3,)), ("h", "held", (), (9,))
        row = [("ask", "x", "a", 1, 5), ("ask", "y", "a", 1, 7)]
        self.says(True, limit, other, row)
        self.says(False, limit, other, row + [("ask", "z", "a", 1, 8)])
        self.says(False, limit, other, row + [("ask", "z", "a", 1, 10)])

    def test_the_last_entry_asks(self):
        limit, other = ("h", "held", (), (1,)), ("h", "held", (), (2,))
        row = [("ask", "x", "a", 1, 0), ("ask", "y", "a", 1, 0)]
        self.says(True, limit, other, row)
        self.says(False, limit, other, row + [("release", "x", 0)])
        self.says(False, limit, other, [row[0], ("release", "x", 0), row[1]])
        self.says(True, limit, other, [row[0], ("release", "x", 0), row[1], ("ask", "z", "a", 1, 3)])
        self.says(False, limit, other, [])

    def test_moments_up_to_the_last_one(self):
        limit, other = ("h", "held", (), (1,)), ("h", "held", (), (2,))
        for moments, expected in (((LAST, LAST), True), ((LAST, LAST + 1), False), ((LAST + 1, LAST + 1), False)):
            row = [("ask", key, "a", 1, moment) for key, moment in zip("xy", moments)]
            self.says(expected, limit, other, row)

    def test_what_breaks_both(self):
        limit = ("h", "held", (), (1,))
        row = [("ask", "x", "a", 1, 0), ("ask", "y", "a", 1, 0)]
        self.says(False, limit, limit, row)
        self.says(False, limit, ("w", "window", ("a",), (1, 1)), row)
        self.says(True, limit, ("w", "window", ("b",), (0, 1)), row)
        self.says(False, ("w", "window", (), (2, 1)), limit, row[:1])

    def test_against_the_definitions(self):
        draw = random.Random(23)
        pairs = [
            (("n", "window", (), (2, 3)), ("m", "span", (), (2, 3))), (("n", "span", ("a",), (2, 3)), ("m", "bucket", (), (2, 2))),
            (("n", "held", ("a",), (2,)), ("m", "pool", (), (2, (("a", 0, 2), ("b", 1, 2))))),
            (("n", "pool", (), (2, (("a", 1, 2), ("b", 0, 1)))), ("m", "held", ("a", "b"), (3,))),
            (("n", "gap", ("b",), (2,)), ("m", "window", (), (4, 3))), (("n", "bucket", (), (2, 2)), ("m", "gap", ("a",), (1,))),
        ]
        found = {True: 0, False: 0}
        for _ in range(6000):
            limit, other = draw.choice(pairs)
            row, moment = [], 0
            for number in range(draw.randint(1, 4)):
                moment += draw.choice((0, 0, 1, 2))
                if row and draw.random() < 0.2:
                    row.append(("release", row[0][1], moment))
                else:
                    row.append(("ask", f"k{number}", draw.choice("ab"), draw.choice((1, 1, 2)), moment))
            expected = is_parting(limit, other, row)
            found[expected] += 1
            self.says(expected, limit, other, row)
        self.assertGreater(min(found.values()), 200)


class TooLargeRows(unittest.TestCase):
    def fits(self, limit, other, entries=None, moment=None):
        row = parting_row(limit, other)
        self.assertTrue(check_parting(limit, other, row), (limit, other))
        self.assertFalse(idle_beside(limit, other))
        if entries is not None:
            self.assertEqual(len(row), entries, (limit, other))
        if moment is not None:
            self.assertEqual(row[-1][-1], moment, (limit, other))

    def too_large(self, limit, other):
        with self.assertRaises(TooLarge, msg=(limit, other)):
            parting_row(limit, other)
        self.assertIs(idle_beside(limit, other), False)

    def test_entries(self):
        """Below, each row that parts needs just so many entries: each lets in a cost of 1 only."""
        for word, numbers in (("window", (1, 5)), ("span", (1, 5)), ("bucket", (1, 5))):
            other = ("m", word, (), numbers)
            self.fits(("n", "held", (), (9999,)), other, 10000, 9999 * 5)
            self.too_large(("n", "held", (), (10000,)), other)
            self.fits(("n", "pool", (), (9999, (("a", 0, TOP), ("b", 1, TOP)))), other, 9999)
            self.fits(("n", "pool", (), (TOP, (("a", 0, 9999), ("b", 0, TOP)))), other, 10000)
            self.too_large(("n", "pool", (), (TOP, (("a", 0, 10000),))), other)
            self.fits(("n", "window", (), (9999, TOP)), other, 10000)
            self.too_large(("n", "window", (), (10000, TOP)), other)
            self.fits(("n", "span", (), (9999, TOP)), other, 10000)
            self.too_large(("n", "span", (), (10000, TOP)), other)
        for word, numbers in (("window", (4999, 9)), ("span", (4999, 9)), ("bucket", (4999, 9))):
            self.fits(("n", word, (), numbers), ("m", "held", (), (1,)), 9999, 0)
            self.too_large(("n", word, (), (5000, 9)), ("m", "held", (), (1,)))
            self.fits(("n", word, ("a",), numbers), ("m", "pool", (), (1, (("a", 0, 9),))), 9999, 0)
            self.too_large(("n", word, ("a",), (TOP, 9)), ("m", "pool", (), (1, (("a", 0, 9),))))

    def test_buckets_that_overflow_slowly(self):
        self.fits(("n", "bucket", (), (60, 60)), ("m", "bucket", (), (1, 59)))
        self.fits(("n", "bucket", (), (60, 60)), ("m", "window", (), (1, 59)))
        self.fits(("n", "bucket", (), (60, 60)), ("m", "span", (), (1, 59)))
        for word in ("window", "span", "bucket"):
            self.too_large(("n", "bucket", (), (TOP, TOP)), ("m", word, (), (1, 999999)))
            self.too_large(("n", "bucket", (), (200, 200)), ("m", word, (), (1, 199)))
        self.too_large(("n", "bucket", (), (TOP, 1000)), ("m", "gap", (), (999999,)))

    def test_whole_pieces_are_taken_where_this_makes_a_row_shorter(self):
        for word in ("window", "span"):
            self.fits(("n", "bucket", (), (TOP, 2)), ("m", word, (), (1001, 1780)))
            self.fits(("n", "bucket", (), (1500, 1)), ("m", word, (), (1001, 900)))

        for word in ("window", "span"):
            self.too_large(("n", "bucket", (), (TOP, 1)), ("m", word, (), (1001, 1000)))

    def test_more_than_one_request_for_each_use(self):
        self.fits(("n", "held", (), (1499,)), ("m", "held", (), (1500,)), 2)
        self.fits(("n", "held", (), (2000,)), ("m", "held", (), (2001,)), 3)
        self.fits(("n", "held", ("a", "b"), (3499,)), ("m", "pool", (), (3500, (("a", 1100, 2200), ("b", 1300, 1300)))))
        self.fits(("n", "pool", (), (3499, (("a", 0, TOP), ("b", 0, TOP)))), ("m", "held", (), (3500,)), 4)
        self.fits(("n", "pool", (), (3001, (("a", 1000, TOP), ("b", 1500, TOP)))), ("m", "held", (), (1502,)))
        self.fits(("n", "held", (), (TOP - 1,)), ("m", "held", (), (TOP,)), 1000)
        for limit, other in (
            (("n", "held", ("a", "b"), (3500,)), ("m", "pool", (), (3500, (("a", 1100, 2200), ("b", 1300, 1300))))),
            (("n", "pool", (), (3001, (("a", 1000, TOP), ("b", 1500, TOP)))), ("m", "held", (), (1501,))),
            (("n", "held", (), (TOP,)), ("m", "held", (), (TOP,))),
        ):
            self.assertIs(idle_beside(limit, other), True)

    def test_moments(self):
        for word in ("window", "span", "bucket"):
            self.fits(("n", "held", (), (1000,)), ("m", word, (), (1, TOP)), 1001, LAST)
            self.too_large(("n", "held", (), (1001,)), ("m", word, (), (1, TOP)))
            self.too_large(("n", "pool", (), (TOP, (("a", 1001, TOP),))), ("m", word, (), (1, TOP)))
        self.fits(("n", "held", (), (TOP,)), ("m", "gap", (), (TOP,)), 1001, LAST)
        self.fits(("n", "held", (), (TOP,)), ("m", "window", (), (1999, TOP)))
        self.fits(("n", "held", (), (TOP,)), ("m", "bucket", (), (1000, 1000)), 1001)

    def test_spans_that_lie_apart_at_first(self):
        """Only a late span of the limit touches so many spans of the other one."""
        self.fits(("n", "span", (), (1, 999999)), ("m", "span", (), (1, 999998)), 2)
        self.fits(("n", "span", (), (1, 7)), ("m", "span", (), (1, 1000)), 2, 1000)
        self.fits(("n", "span", (), (2, 11)), ("m", "span", (), (1, 9)), 3, 54)
        self.fits(("n", "span", (), (2, 20001)), ("m", "span", (), (1, 19999)), 3, 9999 * 20001 + 20000)
        self.too_large(("n", "span", (), (2, 100001)), ("m", "span", (), (1, 99999)))
        self.too_large(("n", "span", (), (2, 999999)), ("m", "span", (), (1, 999997)))
        for numbers, others in (((2, 999999), (1, 999998)), ((2, TOP), (1, 999998)), ((1, 7), (1, 7)), ((1, 3), (1, 999999))):
            self.assertIs(idle_beside(("n", "span", (), numbers), ("m", "span", (), others)), True)
            self.assertIsNone(parting_row(("n", "span", (), numbers), ("m", "span", (), others)))

    def test_first_multiples(self):
        """By them the first span is found that touches enough spans of the other limit."""
        for modulus in range(1, 24):
            for step, low in itertools.product(range(1, 26), range(modulus)):
                for high in range(low, modulus):
                    found = [turns for turns in range(modulus) if low <= turns * step % modulus <= high]
                    self.assertEqual(first_multiple(step, modulus, low, high), min(found, default=None), (step, modulus, low, high))

    def test_never_with_numbers_up_to_60(self):
        draw = random.Random(60)
        for first, second in itertools.product(WORDS, repeat=2):
            for _ in range(60):
                limit, other = self.drawn(draw, first), self.drawn(draw, second)
                check_limit(limit)
                row = parting_row(limit, other)
                self.assertIs(idle_beside(limit, other), row is None)
                if row is not None:
                    self.assertTrue(check_parting(limit, other, row), (limit, other))
                    self.assertLessEqual(len(row), 10000)

    def drawn(self, draw, word):
        def number(least):
            return draw.choice((least, 1, 2, 58, 59, 60, draw.randint(least, 60)))

        if word == "pool":
            shares = []
            for group in sorted(draw.sample("abcd", draw.randint(1, 3))):
                own = draw.randint(0, 20)
                shares.append((group, own, draw.randint(own, 60)))
            return ("n", word, (), (draw.randint(sum(share[1] for share in shares), 60), tuple(shares)))
        groups = draw.choice(((), ("a",), ("a", "b"), ("a", "b", "c", "d")))
        numbers = {"gap": (number(1),), "held": (number(0),)}.get(word, (number(0), number(1)))
        return ("n", word, groups, numbers)

    def test_numbers_at_their_bounds(self):
        numbers = (0, 1, 2, 999, 1000, 1001, 999999, TOP)
        for first, second in itertools.product(("window", "span", "bucket"), repeat=2):
            for one, two, three, four in itertools.product(numbers[:1] + numbers[-2:], (1, TOP), numbers[1:3] + numbers[-2:], (1, 999999, TOP)):
                self.is_told_alike(("n", first, (), (one, two)), ("m", second, (), (three, four)))
        for word, most in itertools.product(("window", "span", "bucket"), numbers):
            for other in (("m", "gap", (), (TOP,)), ("m", "held", (), (TOP,)), ("m", "held", (), (most,))):
                self.is_told_alike(("n", word, (), (most, TOP)), other)
                self.is_told_alike(other, ("n", word, (), (most, TOP)))

    def is_told_alike(self, limit, other):
        try:
            row = parting_row(limit, other)
        except TooLarge:
            self.assertIs(idle_beside(limit, other), False)
            return
        self.assertIs(idle_beside(limit, other), row is None, (limit, other))
        if row is not None:
            self.assertIsNone(check_entries(row))
            self.assertTrue(check_parting(limit, other, row), (limit, other))
