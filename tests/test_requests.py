"""Points 5 and 6: names, keys, moments and requests."""

import unittest

from limitweave.books import check_moment, check_request, is_key, is_name
from limitweave.errors import InvalidRequest

LETTERS = "abcdefghijklmnopqrstuvwxyz"
DIGITS = "0123456789"
PRINTED = "".join(chr(code) for code in range(32, 127))


class Names(unittest.TestCase):
    def test_each_character_by_itself(self):
        for sign in PRINTED + "\n":
            self.assertIs(is_name(sign), sign in LETTERS + DIGITS, repr(sign))
            self.assertIs(is_key(sign), sign in LETTERS + DIGITS + "-", repr(sign))

    def test_each_character_among_others(self):
        for sign in PRINTED + "\n":
            for text in (sign + "ab", "a" + sign + "b", "ab" + sign):
                self.assertIs(is_name(text), sign in LETTERS + DIGITS, repr(text))
                self.assertIs(is_key(text), sign in LETTERS + DIGITS + "-", repr(text))

    def test_all_characters(self):
        for start in range(0, 26, 12):
            self.assertIs(is_name(LETTERS[start:start + 12]), True)
        self.assertIs(is_name(DIGITS), True)
        self.assertIs(is_key(LETTERS[:20]), True)
        self.assertIs(is_key(LETTERS[20:] + DIGITS + "----"), True)

    def test_lengths_of_names(self):
        for length, expected in ((0, False), (1, True), (11, True), (12, True), (13, False), (20, False), (21, False)):
            self.assertIs(is_name("a" * length), expected, length)
            self.assertIs(is_name("7" * length), expected, length)

    def test_lengths_of_keys(self):
        for length, expected in ((0, False), (1, True), (12, True), (13, True), (20, True), (21, False)):
            self.assertIs(is_key("a" * length), expected, length)
            self.assertIs(is_key("-" * length), expected, length)

    def test_a_newline_at_the_end(self):
        self.assertIs(is_name("day\n"), False)
        self.assertIs(is_key("job-1\n"), False)


class Moments(unittest.TestCase):
    def test_bounds(self):
        for moment in (0, 1, 40, 999999999, 1000000000):
            self.assertIsNone(check_moment(moment))
        for moment in (-1, -1000000000, 1000000001, 10 ** 30):
            with self.assertRaises(InvalidRequest):
                check_moment(moment)


class Requests(unittest.TestCase):
    def refused(self, key, group, cost):
        with self.assertRaises(InvalidRequest, msg=(key, group, cost)):
            check_request(key, group, cost)

    def test_good_ones(self):
        self.assertIsNone(check_request("job-1", "mail", 5))
        self.assertIsNone(check_request("a" * 20, "b" * 12, 1000))
        self.assertIsNone(check_request("-", "0", 1))

    def test_bounds_of_the_cost(self):
        for cost in (1, 2, 999, 1000):
            self.assertIsNone(check_request("k", "g", cost))
        for cost in (0, -1, 1001, 1000000):
            self.refused("k", "g", cost)

    def test_each_part_wrong_alone(self):
        for key in ("", "a" * 21, "Job", "job 1", "job\n", "job_1"):
            self.refused(key, "mail", 5)
        for group in ("", "b" * 13, "Mail", "mail-2", "a b", "mail\n"):
            self.refused("job-1", group, 5)
        self.refused("job-1", "mail", 0)
        self.refused("job-1", "mail", 1001)
