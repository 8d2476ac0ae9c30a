"""Tables of refusals, of groups and of answers (point 76)."""

import random
import unittest

from drawing import draw_book, draw_entries
from limitweave.books import Book
from limitweave.errors import InvalidEntry, TooLarge
from limitweave.notation import format_answer
from limitweave.replays import answers_for, deeds_of
from limitweave.report import answer_table, group_table, refusal_table

BOOK = Book([("few", "window", (), (5, 10)), ("j", "held", ("mail",), (6,)), ("longer", "gap", ("x",), (9,))])
ROW = [
    ("ask", "a", "web", 5, 3), ("ask", "b", "mail", 7, 4), ("release", "a", 4), ("ask", "c", "mail", 2, 12),
    ("ask", "d", "web", 1, 20), ("ask", "e", "mail", 2, 21), ("ask", "f", "db", 5, 22),
]


class RefusalTable(unittest.TestCase):
    def test_a_row(self):
        self.assertEqual(refusal_table(BOOK, ROW), "few    3\nj      1\nlonger 0")

    def test_no_entries_and_no_refused_request(self):
        for row in ([], ROW[:1], ROW[:1] + [("release", "a", 3)]):
            self.assertEqual(refusal_table(BOOK, row), "few    0\nj      0\nlonger 0")
        self.assertEqual(refusal_table(Book([("x", "gap", (), (1,))]), []), "x 0")

    def test_names_and_numbers_of_different_widths(self):
        book = Book([("all", "held", (), (0,)), ("b", "held", ("b",), (0,)), ("longestname1", "gap", (), (1000,))])
        row = [("ask", f"k{at}", "b" if at < 12 else "a", 1, 5) for at in range(104)]
        self.assertEqual(refusal_table(book, row), "all          104\nb             12\nlongestname1   0")
        self.assertEqual(refusal_table(book, row[:9]), "all          9\nb            9\nlongestname1 0")
        self.assertEqual(refusal_table(book, row[:10]), "all          10\nb            10\nlongestname1  0")

    def test_drawn_rows(self):
        for seed in range(40):
            draw = random.Random(f"refusals {seed}")
            book, row = draw_book(draw), draw_entries(draw, 30)
            answers = answers_for(book, row)
            lines = refusal_table(book, row).split("\n")
            self.assertEqual(len({len(line) for line in lines}), 1)
            counts = [(line.split()[0], int(line.split()[1])) for line in lines]
            self.assertEqual(counts, [
                (name, sum(name in answer.lacking for answer in answers)) for name in book.limit_names
            ])


class GroupTable(unittest.TestCase):
    def test_a_row(self):
        self.assertEqual(group_table(BOOK, ROW), (
            "db: 1 asked, 0 let, 1 refused, cost 0\n"
            "mail: 3 asked, 1 let, 2 refused, cost 2\n"
            "web: 2 asked, 2 let, 0 refused, cost 6"
        ))

    def test_no_entries(self):
        self.assertEqual(group_table(BOOK, []), "")

    def test_one_group(self):
        self.assertEqual(group_table(BOOK, ROW[:1]), "web: 1 asked, 1 let, 0 refused, cost 5")

    def test_drawn_rows(self):
        for seed in range(40):
            draw = random.Random(f"groups {seed}")
            book, row = draw_book(draw), draw_entries(draw, 30)
            let = [deed for deed in deeds_of(book, row) if deed[0] == "let"]
            lines = []
            for group in sorted({entry[2] for entry in row if entry[0] == "ask"}):
                asked = sum(entry[0] == "ask" and entry[2] == group for entry in row)
                costs = [deed[3] for deed in let if deed[2] == group]
                refused = asked - len(costs)
                lines.append(f"{group}: {asked} asked, {len(costs)} let, {refused} refused, cost {sum(costs)}")
            self.assertEqual(group_table(book, row).split("\n"), lines)


class AnswerTable(unittest.TestCase):
    def test_a_row(self):
        self.assertEqual(answer_table(BOOK, ROW), (
            "a let 3\nb refused 4 never few,j\nc refused 12 13 few\nd let 20\ne let 21\nf refused 22 31 few"
        ))

    def test_no_entries(self):
        self.assertEqual(answer_table(BOOK, []), "")

    def test_drawn_rows(self):
        for seed in range(20):
            draw = random.Random(f"answers {seed}")
            book, row = draw_book(draw), draw_entries(draw, 20)
            lines = [format_answer(answer) for answer in answers_for(book, row)]
            self.assertEqual(answer_table(book, row), "\n".join(lines))


class Wrong(unittest.TestCase):
    def test_rows_that_are_none(self):
        for table in (refusal_table, group_table, answer_table):
            for number, row in ((1, ROW[:1] * 2), (0, [("release", "a", 3)]), (2, ROW[:2] + [("ask", "z", "web", 1, 3)])):
                kept = list(row)
                with self.assertRaises(InvalidEntry) as caught:
                    table(BOOK, row)
                self.assertEqual((caught.exception.number, row), (number, kept))
            with self.assertRaises(TooLarge):
                table(BOOK, [("ask", f"k{at}", "web", 1, at) for at in range(2001)])


if __name__ == "__main__":
    unittest.main()
