"""Point 7: entries and rows of entries."""

import unittest

from limitweave.books import check_entries
from limitweave.errors import InvalidEntry

GOOD = [
    ("ask", "job-1", "mail", 5, 0),
    ("ask", "job-2", "web", 1000, 0),
    ("release", "job-1", 0),
    ("release", "job-1", 7),
    ("ask", "-", "0", 1, 7),
    ("release", "job-2", 999999999),
    ("ask", "a" * 20, "b" * 12, 1, 1000000000),
    ("release", "a" * 20, 1000000000),
]


class Rows(unittest.TestCase):
    def wrong_at(self, number, entries):
        before = list(entries)
        with self.assertRaises(InvalidEntry, msg=entries) as caught:
            check_entries(entries)
        self.assertEqual(caught.exception.number, number, entries)
        self.assertEqual(entries, before)

    def wrong_anywhere(self, entry):
        """The entry is wrong behind each beginning of the good row, and what stands behind does not matter."""
        for length in range(len(GOOD) + 1):
            self.wrong_at(length, GOOD[:length] + [entry])
            self.wrong_at(length, GOOD[:length] + [entry] + GOOD[length:])
            self.wrong_at(length, GOOD[:length] + [entry, ("ask",), entry])

    def test_the_good_row_and_each_beginning(self):
        for length in range(len(GOOD) + 1):
            entries = GOOD[:length]
            self.assertIsNone(check_entries(entries))
            self.assertEqual(entries, GOOD[:length])

    def test_parts_of_an_ask(self):
        for key in ("", "k" * 21, "K", "a b", "k\n", "k_1"):
            self.wrong_anywhere(("ask", key, "mail", 5, 1000000000))
        for group in ("", "g" * 13, "G", "a-b", "a b", "g\n"):
            self.wrong_anywhere(("ask", "new", group, 5, 1000000000))
        for cost in (0, -1, 1001):
            self.wrong_anywhere(("ask", "new", "mail", cost, 1000000000))
        for moment in (-1, 1000000001):
            self.wrong_anywhere(("ask", "new", "mail", 5, moment))

    def test_parts_of_a_release(self):
        for key in ("", "k" * 21, "K", "a b", "k\n"):
            self.wrong_anywhere(("release", key, 1000000000))
        for moment in (-1, 1000000001):
            self.wrong_at(1, [GOOD[0], ("release", "job-1", moment)])

    def test_other_words(self):
        for word in ("", "let", "Ask", "ask ", "released", "view"):
            self.wrong_anywhere((word, "new", "mail", 5, 1000000000))
            self.wrong_at(1, [GOOD[0], (word, "job-1", 7)])

    def test_lengths(self):
        full = ("ask", "new", "mail", 5, 1000000000, 7, "x")
        for length in (1, 2, 3, 4, 6, 7):
            self.wrong_anywhere(full[:length])
        full = ("release", "job-1", 1000000000, 7, 8, "x")
        for length in (1, 2, 4, 5, 6):
            self.wrong_at(1, [GOOD[0], full[:length]])
        self.wrong_at(1, [GOOD[0], ("ask", "new", 7)])
        self.wrong_at(1, [GOOD[0], ("release", "job-1", "mail", 5, 7)])

    def test_strings_and_integers_in_wrong_places(self):
        good = ("ask", "new", "mail", 5, 1000000000)
        for place, other in ((1, 5), (2, 5), (3, "5"), (4, "1000000000")):
            self.wrong_anywhere(good[:place] + (other,) + good[place + 1:])
        self.wrong_at(1, [GOOD[0], ("release", 5, 7)])
        self.wrong_at(1, [GOOD[0], ("release", "job-1", "7")])
        self.wrong_at(1, [GOOD[0], ("release", 7, "job-1")])

    def test_moments_that_fall(self):
        for number in range(1, len(GOOD)):
            last = GOOD[number - 1][-1]
            if last > 0:
                self.wrong_at(number, GOOD[:number] + [("ask", "new", "mail", 5, last - 1)])
                self.wrong_at(number, GOOD[:number] + [("release", "job-1", last - 1)])
            check_entries(GOOD[:number] + [("ask", "new", "mail", 5, last), ("release", "job-1", last)])

    def test_a_key_asked_twice(self):
        self.wrong_at(1, [GOOD[0], GOOD[0]])
        self.wrong_at(3, GOOD[:3] + [("ask", "job-1", "web", 1, 8)])
        for key in ("job-1", "job-2", "-", "a" * 20):
            self.wrong_at(len(GOOD), GOOD + [("ask", key, "mail", 1, 1000000000)])

    def test_a_release_ahead_of_its_ask(self):
        self.wrong_at(0, [("release", "job-1", 0), ("ask", "job-1", "mail", 5, 0)])
        self.wrong_anywhere(("release", "never-asked", 1000000000))

    def test_the_first_wrong_entry_is_told(self):
        self.wrong_at(0, [("ask",), ("release",)])
        self.wrong_at(1, [GOOD[0], ("release", "job-2", 3), ("ask", "job-1", "mail", 5, 1), ("ask", "x")])
