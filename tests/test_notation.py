"""Points 13 to 15: the written forms of books and rows of entries."""

import unittest

from limitweave.books import Book
from limitweave.errors import InvalidNotation
from limitweave.notation import format_book, format_entries, format_entry, format_limit, parse_book, parse_entries

WRITTEN = [
    (("few", "window", (), (5, 10)), "few window 5 10"),
    (("day", "span", ("mail",), (0, 1)), "day span 0 1 for mail"),
    (("fill", "bucket", ("a", "b", "for"), (1000000, 1000000)), "fill bucket 1000000 1000000 for a b for"),
    (("for", "gap", ("for",), (7,)), "for gap 7 for for"),
    (("7", "held", (), (0,)), "7 held 0"),
    (("pool", "pool", (), (10, (("for", 0, 0), ("web", 10, 1000000)))), "pool pool 10 for:0:0 web:10:1000000"),
    (("z", "held", tuple("abcdefgh"), (9,)), "z held 9 for a b c d e f g h"),
    (("zz", "pool", (), (0, tuple((group, 0, 1) for group in "abcdefgh"))),
     "zz pool 0 a:0:1 b:0:1 c:0:1 d:0:1 e:0:1 f:0:1 g:0:1 h:0:1"),
]
WRONG_LIMITS = [
    "", " ", "few", "few window", "few window 5", "few window 5 10 3", "few  window 5 10", "few window  5 10",
    " few window 5 10", "few window 5 10 ", "few\twindow 5 10", "few window 5 10 for", "few window 5 10 for ",
    "few window 5 10 a", "few window 5 10 of a", "few window 5 for a", "few window for a b",
    "few window 5 10 for b a", "few window 5 10 for a a", "few window 5 10 for A", "few window 5 10 for a  b",
    "few window 5 10 for a b c d e f g h i", "few window 5 10 for a,b",
    "Few window 5 10", "few-1 window 5 10", "aaaaaaaaaaaaa window 5 10", "few Window 5 10", "few none 5 10",
    "few window 05 10", "few window 5 010", "few window 00 10", "few window +5 10", "few window -5 10",
    "few window 5 0", "few window 5 -1", "few window 1000001 10", "few window 5 1000001", "few window 12345678 10",
    "few window 0000005 10", "few window 5.0 10", "few window 5_0 10", "few window 0x5 10", "few window a 10",
    "few window 5 10 for 5:1:2", "few gap 0", "few gap", "few gap 3 3", "few gap 1000001", "few held", "few held 4 4",
    "few held 1000001", "few bucket 5", "few bucket 5 0", "few span 5 0", "few span 5",
    "few pool", "few pool 10", "few pool 10 ", "few pool a:0:1", "few pool 10 a", "few pool 10 a:0", "few pool 10 a:0:1:2",
    "few pool 10 a:0:1 ", "few pool 10  a:0:1", "few pool 10 a:0: 1", "few pool 10 :0:1", "few pool 10 a::1",
    "few pool 10 a:0:", "few pool 10 a:00:1", "few pool 10 a:0:01", "few pool 10 a:+0:1", "few pool 10 a:-1:1",
    "few pool 10 a:2:1", "few pool 10 a:0:1000001", "few pool 10 a:11:11", "few pool 10 a:6:6 b:5:5",
    "few pool 10 b:0:1 a:0:1", "few pool 10 a:0:1 a:0:1", "few pool 10 A:0:1", "few pool 010 a:0:1",
    "few pool 1000001 a:0:1", "few pool 10 a:0:1 for a", "few pool 10 for a", "few pool 10 a:0:1 10",
    "few pool 10 a:0:1 b:0:1 c:0:1 d:0:1 e:0:1 f:0:1 g:0:1 h:0:1 i:0:1",
]
ROW = [
    ("ask", "job-1", "mail", 5, 0),
    ("release", "job-1", 0),
    ("ask", "-", "0", 1000, 999999999),
    ("release", "job-1", 1000000000),
    ("ask", "a" * 20, "b" * 12, 1, 1000000000),
]
ROW_TEXT = "\n".join([
    "ask job-1 mail 5 0",
    "release job-1 0",
    "ask - 0 1000 999999999",
    "release job-1 1000000000",
    "ask aaaaaaaaaaaaaaaaaaaa bbbbbbbbbbbb 1 1000000000",
])
WRONG_ENTRIES = [
    "", " ", "ask", "ask k", "ask k g", "ask k g 5", "ask k g 5 7 8", "ask k 7", "release", "release k", "release k 7 8",
    "release k g 5 7", "let k g 5 7", "Ask k g 5 7", "ask  k g 5 7", "ask k g 5  7", " ask k g 5 7", "ask k g 5 7 ",
    "ask K g 5 7", "ask k G 5 7", "ask k g-1 5 7", "ask k_1 g 5 7", "ask k g 0 7", "ask k g 1001 7", "ask k g 05 7",
    "ask k g +5 7", "ask k g -5 7", "ask k g 5 07", "ask k g 5 +7", "ask k g 5 -7", "ask k g 5 00", "ask k g 00001 7",
    "ask k g 5 1000000001", "ask k g 5 10000000000", "ask k g 5 9999999999", "ask k g 5 07000000000",
    "ask k g 12345678 7", "ask k g five 7", "ask k g 5 x", "ask k g 7", "ask aaaaaaaaaaaaaaaaaaaaa g 5 7",
    "ask k ggggggggggggg 5 7", "ask k g 5.0 7", "ask k g 5 7\t",
]


class Wrong(unittest.TestCase):
    def wrong_book(self, line, text):
        with self.assertRaises(InvalidNotation, msg=repr(text)) as caught:
            parse_book(text)
        self.assertEqual(caught.exception.line, line, repr(text))

    def wrong_entries(self, line, text):
        with self.assertRaises(InvalidNotation, msg=repr(text)) as caught:
            parse_entries(text)
        self.assertEqual(caught.exception.line, line, repr(text))


class Books(Wrong):
    def test_lines(self):
        for limit, line in WRITTEN:
            self.assertEqual(format_limit(limit), line)
            self.assertEqual(parse_book(line).limits, [limit])
            self.assertEqual(format_book(parse_book(line)), line)

    def test_a_whole_book(self):
        book = Book([limit for limit, line in WRITTEN])
        text = "\n".join([line for limit, line in sorted(WRITTEN)])
        self.assertEqual(format_book(book), text)
        self.assertTrue(parse_book(text).same_as(book))
        self.assertEqual(format_book(parse_book(text)), text)

    def test_lines_in_any_order(self):
        book = Book([limit for limit, line in WRITTEN])
        lines = [line for limit, line in WRITTEN]
        for turn in range(len(lines)):
            self.assertTrue(parse_book("\n".join(lines[turn:] + lines[:turn])).same_as(book))
            self.assertTrue(parse_book("\n".join((lines[turn:] + lines[:turn])[::-1])).same_as(book))

    def test_wrong_lines(self):
        for wrong in WRONG_LIMITS:
            self.wrong_book(1, wrong)
            self.wrong_book(1, wrong + "\na gap 3")
            self.wrong_book(2, "a gap 3\n" + wrong)
            self.wrong_book(3, "a gap 3\nb gap 3\n" + wrong + "\nno limit\na gap 3")

    def test_newlines(self):
        self.wrong_book(1, "")
        self.wrong_book(1, "\nfew gap 3")
        self.wrong_book(2, "few gap 3\n")
        self.wrong_book(2, "few gap 3\n\nfar gap 3")

    def test_a_name_twice(self):
        self.wrong_book(2, "few gap 3\nfew gap 3")
        self.wrong_book(3, "few gap 3\na held 4\nfew window 5 10\nfew gap 3")
        self.wrong_book(3, "few gap 3\na held 4\na held 5\nno limit")

    def test_the_ninth_line(self):
        lines = [f"n{place} gap 3" for place in range(12)]
        self.assertEqual(len(parse_book("\n".join(lines[:8])).limits), 8)
        for many in (9, 10, 12):
            self.wrong_book(9, "\n".join(lines[:many]))
        self.wrong_book(9, "\n".join(lines[:8]) + "\n")
        self.wrong_book(9, "\n".join(lines[:8] + ["n0 gap 3"]))
        self.wrong_book(8, "\n".join(lines[:7] + ["n0 gap 3"] + lines[8:]))

    def test_digits_of_numbers(self):
        self.assertEqual(parse_book("few window 1000000 1000000").limits, [("few", "window", (), (1000000, 1000000))])
        for number in ("1000001", "9999999", "10000000", "01000000"):
            self.wrong_book(1, f"few window {number} 10")
            self.wrong_book(1, f"few window 5 {number}")


class Entries(Wrong):
    def test_written_and_parsed(self):
        for length in range(len(ROW) + 1):
            text = "\n".join(ROW_TEXT.split("\n")[:length])
            self.assertEqual(format_entries(ROW[:length]), text)
            self.assertEqual(parse_entries(text), ROW[:length])
            self.assertEqual(format_entries(parse_entries(text)), text)

    def test_one_entry(self):
        self.assertEqual([format_entry(entry) for entry in ROW], ROW_TEXT.split("\n"))

    def test_the_empty_row(self):
        self.assertEqual(format_entries([]), "")
        self.assertEqual(parse_entries(""), [])

    def test_lists_are_new_and_stay(self):
        row = list(ROW)
        format_entries(row)
        self.assertEqual(row, ROW)
        parse_entries("ask k g 5 7").clear()
        self.assertEqual(parse_entries("ask k g 5 7"), [("ask", "k", "g", 5, 7)])

    def test_wrong_lines(self):
        for wrong in WRONG_ENTRIES:
            if wrong != "":
                self.wrong_entries(1, wrong)
            self.wrong_entries(1, wrong + "\nask a g 1 0")
            self.wrong_entries(2, "ask a g 1 0\n" + wrong)
            self.wrong_entries(3, "ask a g 1 0\nask b g 1 0\n" + wrong + "\nno entry\nask a g 1 0")

    def test_newlines(self):
        self.wrong_entries(1, "\n")
        self.wrong_entries(6, ROW_TEXT + "\n")
        self.wrong_entries(1, "\n" + ROW_TEXT)

    def test_lines_that_make_no_row(self):
        self.wrong_entries(2, "ask a g 1 5\nask a g 1 5")
        self.wrong_entries(2, "ask a g 1 5\nask b g 1 4")
        self.wrong_entries(2, "ask a g 1 5\nrelease a 4")
        self.wrong_entries(1, "release a 5")
        self.wrong_entries(1, "release a 5\nask a g 1 5")
        self.wrong_entries(3, "ask a g 1 5\nrelease a 5\nrelease b 5")

    def test_the_first_wrong_line_is_told(self):
        self.wrong_entries(2, "ask a g 1 5\nask a g 1 5\nno entry")
        self.wrong_entries(2, "ask a g 1 5\nno entry\nask a g 1 5")
        self.wrong_entries(3, "ask a g 1 5\nrelease a 5\nno entry\nrelease b 4")

    def test_digits_of_moments(self):
        self.assertEqual(parse_entries("ask k g 1000 1000000000"), [("ask", "k", "g", 1000, 1000000000)])
        self.assertEqual(parse_entries("ask k g 1 0"), [("ask", "k", "g", 1, 0)])
        for moment in ("1000000001", "9999999999", "10000000000", "01", "00"):
            self.wrong_entries(1, f"ask k g 1 {moment}")
            self.wrong_entries(2, f"ask k g 1 0\nrelease k {moment}")
