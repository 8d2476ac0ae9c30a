"""Point 44: the bodies of the records of a journal."""

import random
import unittest

from drawing import draw_book, draw_entries
from limitweave.bodies import head_body, read_body, row_body, view_body
from limitweave.notation import format_entry
from limitweave.replays import keeper_of

HOUSES = tuple(f"h{number}" for number in range(8))
NAMES = tuple(f"n{number}" for number in range(8))


class Written(unittest.TestCase):
    def both_ways(self, written, body, told):
        self.assertEqual(written, body)
        self.assertEqual(read_body(body), told)

    def test_views(self):
        for view, body in (
            ((1, 0, ("a", "b")), "view 1 0 a b"), ((0, None, ("a",)), "view 0 none a"),
            ((999999, 999999, HOUSES), "view 999999 999999 h0 h1 h2 h3 h4 h5 h6 h7"),
            ((7, 12, ("z", "a", "none")), "view 7 12 z a none"), ((7, None, ("0" * 12,)), "view 7 none 000000000000"),
        ):
            self.both_ways(view_body(view), body, ("view", view))

    def test_heads(self):
        for head, body in (
            ((0, 0, None, None), "keep 0 0 none"), ((2, 5, 0, None), "keep 2 5 0"),
            ((999999, 999999, 1000000000, (3, None, ("a", "b"))), "keep 999999 999999 1000000000 3 none a b"),
            ((0, 0, None, (1, 0, ("none",))), "keep 0 0 none 1 0 none"), ((5, 2, None, None), "keep 5 2 none"),
            ((1, 1, 7, (0, 9, HOUSES)), "keep 1 1 7 0 9 h0 h1 h2 h3 h4 h5 h6 h7"),
        ):
            self.both_ways(head_body(*head), body, ("keep", head))

    def test_rows(self):
        for row, body in (
            (("job-1", "mail", 5, 40, (), 40, False), "key job-1 mail 5 40 let"),
            (("job-1", "mail", 5, 40, (), 40, True), "key job-1 mail 5 40 back"),
            (("job-1", "mail", 5, 40, ("day", "hour"), None, False), "key job-1 mail 5 40 refused never day,hour"),
            (("-", "0", 1000, 0, ("a",), 1, False), "key - 0 1000 0 refused 1 a"),
            (("k", "g", 1, 1000000000, NAMES, 999999999999, False),
             "key k g 1 1000000000 refused 999999999999 n0,n1,n2,n3,n4,n5,n6,n7"),
            (("k" * 20, "g" * 12, 1, 7, ("never",), 8, False), "key " + "k" * 20 + " " + "g" * 12 + " 1 7 refused 8 never"),
        ):
            self.both_ways(row_body(row), body, ("key", row))

    def test_entries(self):
        for entry in (("ask", "a", "mail", 5, 40), ("release", "a", 0), ("ask", "-", "0", 1000, 1000000000)):
            self.both_ways(format_entry(entry), format_entry(entry), ("entry", entry))

    def test_rows_of_keepers(self):
        draw = random.Random(44)
        for _ in range(60):
            for row in keeper_of(draw_book(draw), draw_entries(draw, 15)).rows():
                self.assertEqual(read_body(row_body(row)), ("key", row))


class Wrong(unittest.TestCase):
    def test_bodies_of_no_kind(self):
        for body in (
            "", " ", "x", "a b c", "Ask a mail 5 40", "views 1 0 a", "keeps 0 0 none", "keys k g 1 1 let", "none", "view", "keep",
            "key", "ask", "release", "entry a", "refused", "let",
        ):
            self.assertIsNone(read_body(body), body)

    def test_spaces_and_newlines(self):
        for right in (
            "view 1 0 a b", "keep 2 5 0", "keep 2 5 0 1 0 a", "key k g 1 1 let", "key k g 1 1 refused never a,b",
            "ask a mail 5 40", "release a 40",
        ):
            self.assertIsNotNone(read_body(right))
            for wrong in (
                " " + right, right + " ", right.replace(" ", "  ", 1), right + "\n", "\n" + right, right.replace(" ", "\n", 1),
                right.upper(), "  ".join(right.rsplit(" ", 1)),
            ):
                self.assertIsNone(read_body(wrong), wrong)

    def none_of(self, *bodies):
        for body in bodies:
            self.assertIsNone(read_body(body), body)

    def test_views(self):
        self.none_of(
            "view 01 0 a", "view -1 0 a", "view +1 0 a", "view 1000000 0 a", "view x 0 a", "view none 0 a", "view 1 00 a",
            "view 1 -1 a", "view 1 1000000 a", "view 1 None a", "view 1 never a", "view 1 0", "view 1 none", "view 1",
            "view 1 0 a a", "view 1 0 a b a", "view 1 0 A", "view 1 0 a-b", "view 1 0 " + "a" * 13,
            "view 1 0 " + " ".join(HOUSES) + " h9", "view 1 0 a,b",
        )

    def test_heads(self):
        self.none_of(
            "keep 0 0", "keep 00 0 none", "keep 0 00 none", "keep 1000000 0 none", "keep 0 1000000 none", "keep none 0 none",
            "keep 0 none none", "keep x 0 none", "keep 1 1 01", "keep 1 1 1000000001", "keep 1 1 -1", "keep 1 1 never",
            "keep 1 1 00000000001", "keep 1 1 1 1", "keep 1 1 1 1 0", "keep 1 1 1 1 none", "keep 1 1 1 01 0 a", "keep 1 1 1 1 0 a a",
            "keep 1 1 1 1 00 a", "keep 1 1 1 1 0 A", "keep 1 1 1 view 1 0 a", "keep 1 1 1 none", "keep 1 1 1 none 0 a",
            "keep 1 1 1 1 0 " + " ".join(HOUSES) + " h9",
        )

    def test_rows(self):
        self.none_of(
            "key K g 1 1 let", "key  g 1 1 let", "key " + "k" * 21 + " g 1 1 let", "key k G 1 1 let", "key k g-g 1 1 let",
            "key k g 0 1 let", "key k g 1001 1 let", "key k g 01 1 let", "key k g 1 01 let", "key k g 1 1000000001 let",
            "key k g 1 -1 let", "key k g 1 none let", "key k g 1 1", "key k g 1 1 Let", "key k g 1 1 released", "key k g 1 1 let 1",
            "key k g 1 1 back never a", "key k g 1 1 refused", "key k g 1 1 refused never", "key k g 1 1 refused never a b",
            "key k g 1 5 refused 5 a", "key k g 1 5 refused 4 a", "key k g 1 5 refused 06 a", "key k g 1 5 refused none a",
            "key k g 1 5 refused 1000000000000 a", "key k g 1 5 refused -7 a", "key k g 1 5 refused never a,a",
            "key k g 1 5 refused never b,a", "key k g 1 5 refused never a,", "key k g 1 5 refused never ,a",
            "key k g 1 5 refused never a,,b", "key k g 1 5 refused never A", "key k g 1 5 refused never " + "a" * 13,
            "key k g 1 5 refused never " + ",".join(NAMES) + ",n9", "key k g 1 5 let never a", "key k g 1",
        )
        self.assertIsNotNone(read_body("key k g 1 5 refused 6 a"))

    def test_entries(self):
        self.none_of(
            "ask a mail 5", "ask a mail 5 40 1", "ask A mail 5 40", "ask a Mail 5 40", "ask a mail 0 40", "ask a mail 1001 40",
            "ask a mail 05 40", "ask a mail 5 040", "ask a mail 5 1000000001", "release a", "release a b 4", "release A 4",
            "release a 04", "release a 1000000001", "release a -4", "let a mail 5 40",
        )
