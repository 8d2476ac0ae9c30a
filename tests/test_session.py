"""Sessions: each line with its reply (point 77)."""

import unittest

from limitweave.books import Book
from limitweave.notation import format_book, parse_book
from limitweave.report import answer_table
from limitweave.session import Session

FEW = ("few", "window", (), (5, 10))
JOBS = ("jobs", "held", ("mail",), (6,))
BOOK = Book([FEW, JOBS])
BOOK_TEXT = "few window 5 10\njobs held 6 for mail"


class SessionTest(unittest.TestCase):
    def session(self, lines=(), book=BOOK):
        session = Session(book)
        for line in lines:
            session.obey(line)
        return session

    def check(self, line, reply, lines=("ask a mail 4 40", "ask b web 2 41"), book=BOOK):
        """Look at the reply behind some lines. An error leaves everything as it is."""
        session = self.session(lines, book)
        before = session.play("book\nentries\nanswers")
        self.assertEqual(session.obey(line), reply)
        if reply.startswith("error"):
            self.assertEqual(session.play("book\nentries\nanswers"), before)


class Lines(SessionTest):
    def test_ask(self):
        self.check("ask c web 1 42", "c let 42")
        self.check("ask c web 2 42", "c refused 42 50 few")
        self.check("ask c web 9 42", "c refused 42 never few")
        self.check("ask c mail 3 42", "c refused 42 never few,jobs")
        self.check("ask c mail 1 1000000000", "c let 1000000000")
        self.check("ask c web 1000 0", "c refused 0 never few", [])

    def test_release(self):
        self.check("release a 41", "released")
        self.check("release b 41", "idle")
        self.check("release a 42", "idle", ["ask a mail 4 40", "release a 41"])

    def test_limit(self):
        self.check("limit few window 5 11", "ok")
        self.check("limit x pool 9 a:1:2 b:0:7", "ok")
        session = self.session(["ask a web 5 40", "ask b web 2 41", "limit few window 7 10", "limit a1 gap 3 for db web"])
        self.assertEqual(session.obey("book"), "a1 gap 3 for db web\nfew window 7 10\njobs held 6 for mail")
        self.assertEqual(session.obey("answers"), "a let 40\nb refused 41 43 a1")

    def test_drop(self):
        session = self.session(["ask a web 5 40", "ask b web 2 41"])
        self.assertEqual(session.obey("drop few"), "ok")
        self.assertEqual(session.obey("answers"), "a let 40\nb let 41")
        self.assertEqual(session.obey("book"), "jobs held 6 for mail")

    def test_undo_and_redo(self):
        session = self.session(["ask a web 5 40", "drop few", "ask b web 2 41"])
        self.assertEqual([session.obey("undo"), session.obey("undo")], ["ok", "ok"])
        self.assertEqual(session.play("book\nentries"), [BOOK_TEXT, "ask a web 5 40"])
        self.assertEqual([session.obey("redo"), session.obey("redo")], ["ok", "ok"])
        self.assertEqual(session.play("book\nentries"), ["jobs held 6 for mail", "ask a web 5 40\nask b web 2 41"])

    def test_book_entries_and_answers(self):
        row = [("ask", "a", "mail", 4, 40), ("ask", "b", "web", 2, 41), ("release", "a", 41)]
        session = self.session(["ask a mail 4 40", "ask b web 2 41", "release a 41"])
        self.assertEqual(session.obey("book"), BOOK_TEXT)
        self.assertTrue(parse_book(session.obey("book")).same_as(BOOK))
        self.assertEqual(session.obey("entries"), "ask a mail 4 40\nask b web 2 41\nrelease a 41")
        self.assertEqual(session.obey("answers"), "a let 40\nb refused 41 50 few")
        self.assertEqual(session.obey("answers"), answer_table(BOOK, row))

    def test_nothing_yet(self):
        session = self.session()
        self.assertEqual(session.play("book\nentries\nanswers\nturned few"), [format_book(BOOK), "", "", "none"])

    def test_turned(self):
        lines = ["ask a mail 4 40", "ask b web 2 41", "ask c web 1 41", "ask d mail 3 60", "ask e web 9 61"]
        self.check("turned few", "b e", lines)
        self.check("turned jobs", "d", lines)
        self.check("turned jobs", "none")
        self.check("turned few", "b", lines[:2])


class Errors(SessionTest):
    def test_requests(self):
        for line in (
            "ask A mail 1 50", "ask c Mail 1 50", "ask c mail 0 50", "ask c mail 1001 50", "ask c mail 9999999 50",
            "ask c mail 1 1000000001", "ask c mail 1 9999999999", "release a 1000000001", "release z 9999999999",
            "ask a mail 0 1", "ask c-toolong-keys-are-no-k mail 1 50", "ask ! mail 1 50", "ask c thirteenchars 1 50",
        ):
            self.check(line, "error request")

    def test_keys_and_moments(self):
        self.check("ask a mail 1 50", "error known a")
        self.check("ask a mail 1 0", "error known a")
        self.check("release z 50", "error unknown z")
        self.check("release Z! 50", "error unknown Z!")
        self.check("ask c mail 1 40", "error earlier 41")
        self.check("release a 0", "error earlier 41")

    def test_names_and_books(self):
        self.check("drop none", "error name none")
        self.check("drop No!", "error name No!")
        self.check("turned none", "error name none")
        self.check("drop few", "error book", [], Book([FEW]))
        self.check("turned few", "error book", [], Book([FEW]))
        self.check("turned x", "error name x", [], Book([FEW]))
        eight = [f"limit l{at} gap 1" for at in range(6)]
        self.check("limit ninth gap 1", "error book", eight)
        self.check("limit l5 gap 2", "ok", eight)

    def test_undo_and_redo(self):
        self.check("undo", "error undo", [])
        self.check("redo", "error redo", [])
        self.check("redo", "error redo")
        self.check("redo", "error redo", ["ask a mail 4 40", "undo", "ask b web 2 41"])

    def test_too_many_requests(self):
        session = self.session([f"ask k{at} web 1 {at}" for at in range(2000)])
        self.assertEqual(session.obey("ask one-more web 1 2000"), "error large")
        self.assertEqual(session.obey("ask one-more web 1 3"), "error earlier 1999")
        self.assertEqual(session.obey("release k0 2000"), "released")

    def test_a_line_with_an_error_is_no_change(self):
        session = self.session(["ask a mail 4 40", "undo", "ask b web 0 5", "drop none", "limit x", "nothing"])
        self.assertEqual(session.play("redo\nentries"), ["ok", "ask a mail 4 40"])


class NoForm(SessionTest):
    def test_lines_of_no_form(self):
        for line in (
            "", " ", "  ", "ask", "ask c", "ask c web 1", "ask c web 1 50 1", "release a", "release", "release a 50 1",
            "undo 1", "redo now", "book few", "entries 1", "answers all", "turned", "turned few jobs", "drop",
            "drop few jobs", "limit", "limit ", "Ask c web 1 50", "BOOK", "refuse c", "drop-few", "turn few",
        ):
            self.check(line, "error command")

    def test_spaces(self):
        for line in ("ask c web 1 50", "release a 50", "limit few window 6 10", "drop few", "undo", "redo", "book",
                     "entries", "answers", "turned few"):
            self.check(" " + line, "error command")
            self.check(line + " ", "error command")
            if " " in line:
                for at, sign in enumerate(line):
                    if sign == " ":
                        self.check(line[:at] + " " + line[at:], "error command")

    def test_words_without_characters(self):
        for line in ("ask  web 1 50", "ask c  1 50", "ask c web  50", "ask c web 1 ", "release  50", "release a ",
                     "drop ", "turned ", "ask    ", "limit  window 5 10", "limit few  5 10", "limit few window  10"):
            self.check(line, "error command")

    def test_numbers(self):
        for number in ("01", "+1", "-1", "1.0", "x", "00", "00000001", "12345678", "0x1"):
            self.check(f"ask c web {number} 50", "error command")
            self.check(f"limit few window {number} 10", "error command")
        for moment in ("050", "+50", "-50", "50.", "x", "00", "12345678901", "10000000000"):
            self.check(f"ask c web 1 {moment}", "error command")
            self.check(f"release a {moment}", "error command")
        self.check("ask A web 01 50", "error command")
        self.check("release z 050", "error command")

    def test_limits_that_are_none(self):
        for line in (
            "few", "few window", "few window 5", "few window 5 0", "few window 5 10 20", "Few window 5 10",
            "few windows 5 10", "few window 5 10 for", "few window 5 10 for b a", "few window 5 10 for a a",
            "few window 1000001 10", "x pool 5", "x pool 5 a:6:7", "x pool 5 b:1:2 a:1:2", "x pool 9 a:1:2 for a",
            "x pool 9 a:1", "gap gap 0", "x held 5 6",
        ):
            self.check("limit " + line, "error command")


class Play(SessionTest):
    def test_several_lines(self):
        session = Session(Book([FEW]))
        text = (
            "ask a mail 4 40\nask b web 2 41\n\nrelease b 41\nlimit jobs held 6 for mail\nturned few\nundo\nask b x 1 50"
            "\nbook\nentries\nanswers"
        )
        self.assertEqual(session.play(text), [
            "a let 40", "b refused 41 50 few", "error command", "idle", "ok", "b", "ok", "error known b",
            "few window 5 10", "ask a mail 4 40\nask b web 2 41\nrelease b 41", "a let 40\nb refused 41 50 few",
        ])
        self.assertEqual(session.play("redo\n"), ["ok", "error command"])

    def test_the_empty_string(self):
        self.assertEqual(Session(BOOK).play(""), ["error command"])
        self.assertEqual(Session(BOOK).play("\n"), ["error command", "error command"])

    def test_two_sessions_do_not_touch_each_other(self):
        first, second = Session(BOOK), Session(BOOK)
        first.play("ask a mail 4 40\ndrop few")
        self.assertEqual(second.play("book\nentries\nundo"), [BOOK_TEXT, "", "error undo"])


if __name__ == "__main__":
    unittest.main()
