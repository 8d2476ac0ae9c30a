"""Points 41 to 43: records, their lines, and whole records."""

import random
import unittest

from limitweave.records import check_digits, read_record, record_line, record_text, whole_length, whole_records

SIGNS = "".join(chr(code) for code in range(32, 127))


def digits(text):
    """Point 41."""
    first = sum(ord(sign) for sign in text) % 997
    second = sum((place + 1) * ord(text[place]) for place in range(len(text))) % 997
    return str(first).rjust(3, "0") + str(second).rjust(3, "0")


def texts(draw, many):
    for _ in range(many):
        yield "".join(draw.choice(SIGNS) for _ in range(draw.choice((1, 2, 9, 60, 700))))


class Lines(unittest.TestCase):
    def test_check_digits(self):
        self.assertEqual([check_digits("ab"), check_digits("ba"), check_digits("")], ["195293", "195292", "000000"])
        for text in list(texts(random.Random(41), 60)) + ["~" * 720, " " * 720, " ", "~"]:
            self.assertEqual(check_digits(text), digits(text))
            self.assertEqual(len(check_digits(text)), 6)

    def test_lines_are_read_again(self):
        draw = random.Random(42)
        bodies = ["a", " ", "~", "  ", "a" * 699, " " * 700, "~" * 700, "1 0 a 258870"] + list(texts(draw, 40))
        for body in bodies:
            for number in (0, 1, 9, 10, 999998, 999999, draw.randint(0, 999999)):
                line = record_line(number, body)
                head = f"{len(body)} {number} {body}"
                self.assertEqual(line, f"{head} {digits(head)}")
                self.assertEqual(record_text(number, body), line + "\n")
                self.assertEqual(read_record(line), (number, body))
        self.assertEqual(record_line(0, "a"), "1 0 a 258870")

    def test_one_character_replaced(self):
        for number, body in ((0, "a"), (999999, "release job-1 47"), (17, " 5 9 "), (9, "0"), (1, "x" * 120)):
            line = record_line(number, body)
            for place in range(len(line)):
                for sign in SIGNS + "\n":
                    if sign != line[place]:
                        self.assertIsNone(read_record(line[:place] + sign + line[place + 1:]))

    def test_two_characters_replaced(self):
        draw = random.Random(43)
        line = record_line(10, "ab")
        for first in range(len(line)):
            for second in range(first):
                for _ in range(40):
                    signs = list(line)
                    signs[first], signs[second] = draw.choice(SIGNS), draw.choice(SIGNS)
                    if "".join(signs) != line:
                        self.assertIsNone(read_record("".join(signs)))
        for body in texts(draw, 60):
            line = record_line(draw.randint(0, 999999), body)
            for _ in range(60):
                signs = list(line)
                for place in draw.sample(range(len(line)), 2):
                    signs[place] = draw.choice(SIGNS)
                if "".join(signs) != line:
                    self.assertIsNone(read_record("".join(signs)))

    def test_digits_exchanged_in_the_line(self):
        """All lines with other digits at two places, one of them behind the body."""
        line = record_line(35, "ask")
        for first in range(len(line)):
            for second in range(first):
                for one in "0123456789 ":
                    for two in "0123456789 ":
                        other = line[:second] + one + line[second + 1:first] + two + line[first + 1:]
                        if other != line:
                            self.assertIsNone(read_record(other))

    def line(self, size, number, body):
        head = f"{size} {number} {body}"
        return f"{head} {digits(head)}"

    def test_wrong_lines_with_right_digits(self):
        self.assertEqual(read_record(self.line("3", "7", "abc")), (7, "abc"))
        for size, number, body in (
            ("03", "7", "abc"), ("+3", "7", "abc"), ("-3", "7", "abc"), ("3", "07", "abc"), ("3", "+7", "abc"),
            ("3", "-7", "abc"), ("3", "00", "abc"), ("2", "7", "abc"), ("4", "7", "abc"), ("0", "7", ""), ("", "7", "abc"),
            ("3", "", "abc"), ("3", "1000000", "abc"), ("3", "x", "abc"), ("x", "7", "abc"), ("701", "7", "a" * 701),
            ("3", "7", "a\nc"), ("3 ", "7", "abc"), (" 3", "7", "abc"), ("3", " 7", "abc"), ("3.0", "7", "abc"),
            ("3_0", "7", "a" * 30), ("1000", "7", "a" * 1000), ("9" * 5000, "7", "a"), ("1", "9" * 5000, "a"),
        ):
            self.assertIsNone(read_record(self.line(size, number, body)), (size, number, body[:20]))
        self.assertEqual(read_record(self.line("700", "0", "a" * 700)), (0, "a" * 700))

    def test_spaces_and_newlines_at_the_ends(self):
        line = record_line(7, "abc")
        for wrong in (
            " " + line, line + " ", line + "\n", "\n" + line, line[:-1], line[1:], line + "0", line.replace(" ", "  ", 1),
            line[:-7] + line[-6:], line[:-7] + "  " + line[-6:], "", " ", "  ", "   ", "1", "1 0", "1 0 a", "0 0  000000", "\n",
        ):
            self.assertIsNone(read_record(wrong), wrong)


class Whole(unittest.TestCase):
    def check_text(self, text, expected):
        self.assertEqual(whole_records(text), expected)
        self.assertEqual(whole_length(text), sum(len(record_text(number, body)) for number, body in expected))

    def test_torn_off_at_each_place(self):
        for first in (0, 41):
            records = [(first, "a"), (first + 1, "release job-1 47"), (first + 2, " ")]
            parts = [record_text(number, body) for number, body in records]
            text = "".join(parts)
            for end in range(len(text) + 1):
                whole = [at for at in range(1, 4) if len("".join(parts[:at])) <= end]
                self.check_text(text[:end], records[:max(whole, default=0)])

    def test_numbers(self):
        def text(*numbers):
            return "".join(record_text(number, f"b{number}") for number in numbers)

        for numbers, many in (
            ((0, 1, 2), 3), ((5, 6, 7), 3), ((0, 2), 1), ((0, 1, 1), 2), ((0, 0), 1), ((1, 0), 1), ((0, 1, 3, 2), 2),
            ((999998, 999999), 2), ((999999, 0), 1), ((3,), 1),
        ):
            self.check_text(text(*numbers), [(number, f"b{number}") for number in numbers[:many]])

    def test_what_is_no_line_between(self):
        one, two = record_text(0, "a"), record_text(1, "b")
        for text, many in (
            ("", 0), ("\n", 0), (one + "\n" + two, 1), ("\n" + one, 0), (one + "x\n" + two, 1), (one + two[:-1], 1),
            (one + two + "rest", 2), (one + two + "\n", 2), (one[:-1], 0), (one[:-1] + " \n", 0), (one[:-1] + two, 0),
        ):
            self.check_text(text, [(0, "a"), (1, "b")][:many])

    def test_lists_are_new(self):
        text = record_text(0, "a")
        whole_records(text).clear()
        self.assertEqual(whole_records(text), [(0, "a")])
