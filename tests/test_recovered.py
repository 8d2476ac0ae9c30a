"""Points 46 to 48: `recovered`, `read_journal` and `mended`."""

import random
import unittest

from journals import draw_journal, is_journal, longest_journal, numbered, text_of
from limitweave.errors import InvalidJournal
from limitweave.journal import Journal, mended, read_journal, recovered
from limitweave.records import record_text, whole_records

SIGNS = "".join(chr(code) for code in range(32, 127))

# A journal with all kinds of records, a snapshot at the beginning, and two more.
BODIES = [
    "keep 3 5 8 1 none a b", "key x g 4 3 let", "key y g 1 8 back", "key z g 9 8 refused 12 few", "ask u g 2 8", "release x 9",
    "view 1 3 a b", "keep 4 7 9 1 3 a b", "key x g 4 3 back", "key y g 1 8 back", "key z g 9 8 refused never few,jobs",
    "key u g 2 8 let", "release u 9", "release z 11", "view 2 3 b", "ask v g 1 11", "keep 5 10 11 2 3 b", "key x g 4 3 back",
    "key y g 1 8 back", "key z g 9 8 refused 13 few", "key u g 2 8 back", "key v g 1 11 refused 12 few", "release v 11",
]


class Recovered(unittest.TestCase):
    def check_bodies(self, many, bodies, first=0):
        """Of the records with these bodies, just so many are those of the journal that is recovered."""
        records = numbered(bodies, first)
        self.assertEqual(len(longest_journal(records)), many, bodies)
        journal = recovered(text_of(records))
        self.assertIsInstance(journal, Journal)
        self.assertEqual(journal.records(), records[:many])
        self.assertEqual(journal.text(), text_of(records[:many]))
        if many == len(records):
            self.assertEqual(read_journal(text_of(records)).records(), records)
        else:
            with self.assertRaises(InvalidJournal):
                read_journal(text_of(records))

    def test_a_whole_journal(self):
        for first in (0, 1, 77, 999977):
            self.check_bodies(len(BODIES), BODIES, first)
        journal = recovered(text_of(numbered(BODIES, 77)))
        self.assertEqual(journal.first_entry(), 5)
        self.assertEqual(journal.last_view(), (2, 3, ("b",)))
        self.assertEqual(journal.last_moment(), 11)
        self.assertEqual(journal.entries(), [
            ("ask", "u", "g", 2, 8), ("release", "x", 9), ("release", "u", 9), ("release", "z", 11), ("ask", "v", "g", 1, 11),
            ("release", "v", 11),
        ])
        self.assertEqual([journal.knows(key) for key in "xyzuvw"], [True] * 5 + [False])
        self.assertEqual(journal.trimmed().records(), numbered(BODIES, 77)[16:])

    def test_the_empty_text(self):
        self.assertEqual(recovered("").records(), [])
        self.assertEqual(read_journal("").records(), [])
        for text in ("\n", "x", " ", "0", "1 0 a 258870", "1 0 a 258870\n"):
            self.assertEqual(recovered(text).records(), [])
            with self.assertRaises(InvalidJournal):
                read_journal(text)
        self.assertEqual(recovered("nothing").write(("ask", "a", "g", 1, 0)), 0)

    def test_the_first_number(self):
        self.check_bodies(1, ["ask a g 1 0"], 0)
        self.check_bodies(1, ["view 1 0 a"], 0)
        self.check_bodies(1, ["keep 0 0 none"], 0)
        self.check_bodies(1, ["keep 0 0 none"], 1)
        self.check_bodies(2, ["keep 1 1 5", "key a g 1 5 let"], 0)
        for body in ("ask a g 1 0", "view 1 0 a"):
            for first in (1, 999999):
                self.check_bodies(0, [body], first)
        self.assertEqual(recovered(text_of([(5, "view 1 0 a")])).write(("ask", "a", "g", 1, 0)), 0)
        self.assertEqual(recovered(text_of([(5, "keep 0 0 none")])).write(("ask", "a", "g", 1, 0)), 6)

    def changed(self, place, *bodies):
        """The bodies with others instead of one."""
        return BODIES[:place] + list(bodies) + BODIES[place + 1:]

    def test_rules_of_entries(self):
        for place, bodies in (
            (4, ["ask x g 2 8"]), (4, ["ask z g 9 8"]), (4, ["ask u g 2 7"]), (4, ["release u 8"]), (4, ["release x 7"]),
            (4, ["ask u g 0 8"]), (4, ["nothing"]), (4, ["key u g 2 8 let"]), (5, ["release w 9"]), (5, ["release x 7"]),
            (12, ["release u 8"]), (12, ["ask u g 2 9"]), (15, ["ask y g 1 11"]), (22, ["release v 10"]), (22, ["release q 11"]),
        ):
            self.check_bodies(place, self.changed(place, *bodies), 9)
        self.check_bodies(len(BODIES) + 1, BODIES + ["ask w g 1 11"], 9)

    def test_rules_of_views(self):
        for place, body in (
            (6, "view 0 3 a b"), (6, "view 1 3 b a"), (6, "view 1 3 a"), (14, "view 1 3 a"), (14, "view 0 3 b"), (14, "view 2 none b"),
            (14, "view 2 4 b"), (14, "view 2 3 b b"), (14, "view 2 3"),
        ):
            self.check_bodies(place, self.changed(place, body), 9)
        self.check_bodies(len(BODIES) + 1, BODIES + ["view 2 3 b"], 9)
        self.check_bodies(len(BODIES) + 1, BODIES + ["view 3 3 c"], 9)
        self.check_bodies(len(BODIES), BODIES + ["view 2 3 c"], 9)
        self.check_bodies(len(BODIES), BODIES + ["view 3 2 c"], 9)
        self.check_bodies(3, ["view 1 none a", "view 1 none a", "view 1 4 a", "view 2 none a"])

    def test_rules_of_a_snapshot_at_the_beginning(self):
        for bodies in (
            ["keep 1 1 5 1 0 a", "key x g 1 5 let"], ["keep 2 3 5", "key x g 1 5 let", "key y g 1 5 refused never a"],
            ["keep 0 0 none 7 none a b"], ["keep 1 999999 5", "key x g 1 0 back"],
        ):
            for first in (0, 5):
                self.check_bodies(len(bodies), bodies, first)
                self.check_bodies(len(bodies) + 1, bodies + ["view 9 0 a"], first)
        for bodies in (
            ["keep 2 1 5", "key x g 1 5 let", "key y g 1 5 let"], ["keep 1 1 4", "key x g 1 5 let"], ["keep 1 1 none", "key x g 1 5 let"],
            ["keep 0 1 5"], ["keep 0 1 none"], ["keep 0 0 5"], ["keep 1 0 none", "key x g 1 5 let"], ["keep 1 0 5", "key x g 1 5 let"],
            ["keep 2 2 5", "key x g 1 5 let", "key x g 1 5 let"], ["keep 2 2 5", "key x g 1 5 let", "key y g 1 4 let"],
            ["keep 2 2 5", "key x g 1 5 let"], ["keep 1 1 5"], ["keep 1 1 5", "ask x g 1 5"], ["key x g 1 5 let"],
            ["keep 2 2 5", "key x g 1 5 let", "ask y g 1 5"], ["keep 2 2 5", "key x g 1 5 let", "view 1 0 a"],
        ):
            for first in (0, 5):
                self.check_bodies(0, bodies, first)
        self.check_bodies(2, ["keep 1 1 5", "key x g 1 5 let", "key y g 1 5 let"], 5)
        self.check_bodies(2, ["keep 1 1 5", "key x g 1 5 let", "ask y g 1 4"], 5)

    def test_a_snapshot_further_on_tells_what_stands_ahead(self):
        for place, bodies in (
            (7, ["keep 4 6 9 1 3 a b"]), (7, ["keep 4 8 9 1 3 a b"]), (7, ["keep 4 7 8 1 3 a b"]), (7, ["keep 4 7 10 1 3 a b"]),
            (7, ["keep 4 7 none 1 3 a b"]), (7, ["keep 4 7 9"]), (7, ["keep 4 7 9 1 none a b"]), (7, ["keep 4 7 9 2 3 a b"]),
            (7, ["keep 4 7 9 1 3 b a"]), (7, ["keep 3 7 9 1 3 a b"]), (7, ["keep 5 7 9 1 3 a b"]), (7, ["keep 0 0 none"]), (7, []),
            (8, []), (8, ["key x g 4 3 back", "key x g 4 3 back"]), (8, ["key y g 1 8 back", "key x g 4 3 back"]), (8, ["release x 9"]),
            (8, ["key x h 4 3 back"]), (8, ["key x g 3 3 back"]), (8, ["key x g 4 4 back"]), (8, ["key w g 4 3 back"]),
            (8, ["key x g 4 3 let"]), (8, ["key x g 4 3 refused never few"]), (9, ["key y g 1 8 let"]), (9, ["key y g 1 8 refused 9 few"]),
            (10, ["key z g 9 8 let"]), (10, ["key z g 9 8 back"]), (11, ["key u g 2 8 back"]), (11, []),
        ):
            self.check_bodies(7, self.changed(place, *bodies), 9)
        for bodies in (
            BODIES[:8] + [BODIES[9], BODIES[8]] + BODIES[10:], BODIES[:8] + BODIES[9:11] + BODIES[8:9] + BODIES[11:],
        ):
            self.check_bodies(7, bodies, 9)
        for place, bodies in (
            (17, ["key x g 4 3 let"]), (18, ["key y g 1 8 let"]), (19, ["key z g 9 8 back"]), (20, ["key u g 2 8 let"]),
            (20, ["key u g 2 8 refused 9 few"]), (21, ["key v g 1 11 back"]), (16, ["keep 5 10 11 1 3 a b"]), (16, ["keep 5 7 11 2 3 b"]),
        ):
            self.check_bodies(16, self.changed(place, *bodies), 9)

    def test_what_is_not_looked_at_in_a_snapshot(self):
        for place, body in (
            (10, "key z g 9 8 refused 77 other"), (11, "key u g 2 8 let"), (21, "key v g 1 11 let"), (19, "key z g 9 8 refused never a"),
        ):
            self.check_bodies(len(BODIES), self.changed(place, body), 9)
        bodies = self.changed(11, "key u g 2 8 refused 9 few")
        self.check_bodies(16, bodies, 9)
        self.check_bodies(len(BODIES), bodies[:20] + ["key u g 2 8 refused 9 few"] + bodies[21:], 9)
        self.check_bodies(len(BODIES), self.changed(21, "key v g 1 11 let"), 9)
        self.check_bodies(16, self.changed(21, "key v g 1 11 back"), 9)

    def test_rows_stand_behind_heads_only(self):
        for place in (0, 1, 5, 7, 12, 13, 16):
            for body in ("key x g 4 3 let", "key w g 4 3 let"):
                bodies = BODIES[:place] + [body] + BODIES[place:]
                records = numbered(bodies, 9)
                self.assertEqual(recovered(text_of(records)).records(), longest_journal(records))
                self.assertLess(len(longest_journal(records)), len(bodies))

    def test_two_snapshots_on_end(self):
        rows = BODIES[8:12]
        bodies = BODIES[:12] + ["keep 4 7 9 1 3 a b"] + rows
        self.check_bodies(17, bodies, 9)
        self.check_bodies(12, bodies[:-1], 9)

    def test_bodies_exchanged_left_out_and_doubled(self):
        draw = random.Random(48)
        whole = 0
        for _ in range(400):
            bodies = [body for _, body in draw_journal(draw, draw.randint(1, 9), 0.3)[0].records()] if draw.random() < 0.7 else list(BODIES)
            for _ in range(draw.randint(0, 2)):
                at, other = draw.randrange(len(bodies)), draw.randrange(len(bodies))
                kind = draw.randrange(4)
                if kind == 0:
                    bodies[at], bodies[other] = bodies[other], bodies[at]
                elif kind == 1 and len(bodies) > 1:
                    del bodies[at]
                elif kind == 2:
                    bodies.insert(at, bodies[other])
                else:
                    words = bodies[at].split(" ")
                    words[draw.randrange(len(words))] = draw.choice(bodies[other].split(" "))
                    bodies[at] = " ".join(words)
            records = numbered(bodies, draw.choice((0, 0, 3)))
            expected = longest_journal(records)
            whole += len(expected) == len(records)
            self.assertEqual(recovered(text_of(records)).records(), expected, records)
        self.assertGreater(whole, 50)

    def test_numbers_that_do_not_ascend_by_one(self):
        one = text_of(numbered(BODIES[:6], 9))
        for more in (text_of(numbered(BODIES[6:], 16)), text_of(numbered(BODIES[6:], 14)), text_of(numbered(BODIES[6:], 0)), "\n"):
            self.assertEqual(recovered(one + more).text(), one)
            with self.assertRaises(InvalidJournal):
                read_journal(one + more)
        with self.assertRaises(InvalidJournal):
            read_journal(one[:-1])
        with self.assertRaises(InvalidJournal):
            read_journal(one + "x")


def replaced(text, places, signs):
    """The text with other characters at some places."""
    found = list(text)
    for place, sign in zip(places, signs):
        found[place] = sign
    return "".join(found)


class Damaged(unittest.TestCase):
    def setUp(self):
        self.text = text_of(numbered(BODIES, 9))
        self.parts = [record_text(9 + at, body) for at, body in enumerate(BODIES)]
        # Where the beginnings of the journal end that are journals: a snapshot is whole, or is not there.
        self.ends = [sum(map(len, self.parts[:at])) for at in range(len(BODIES) + 1) if not 0 < at < 4 and not 7 < at < 12 and not 16 < at < 22]

    def is_beginning(self, text, expected=None):
        found = recovered(text).text()
        self.assertTrue(self.text.startswith(found))
        self.assertIn(len(found), self.ends)
        if expected is not None:
            self.assertEqual(len(found), expected)

    def test_torn_off_at_each_place(self):
        self.assertTrue(is_journal(numbered(BODIES, 9)))
        for end in range(len(self.text) + 1):
            self.is_beginning(self.text[:end], max(whole for whole in self.ends if whole <= end))

    def test_one_character_replaced(self):
        for place in range(len(self.text)):
            for sign in "0 z\n~1":
                if sign != self.text[place]:
                    self.is_beginning(replaced(self.text, [place], [sign]), max(whole for whole in self.ends if whole <= place))

    def test_torn_off_and_replaced(self):
        draw = random.Random(47)
        for _ in range(2500):
            torn = self.text[:draw.randint(1, len(self.text))]
            place = draw.randrange(len(torn)) if draw.random() < 0.7 else len(torn) - 1
            self.is_beginning(replaced(torn, [place], [draw.choice(SIGNS + "\n" * 40)]))

    def test_two_characters_replaced(self):
        draw = random.Random(49)
        for _ in range(2500):
            torn = self.text[:draw.choice((len(self.text), draw.randint(9, len(self.text))))]
            first = draw.randrange(len(torn))
            second = min(len(torn) - 1, first + draw.choice((1, 1, 2, 5, 9, 200)))
            places = [place for place in (first, second) if torn[place] != "\n"]
            self.is_beginning(replaced(torn, places, [draw.choice(SIGNS), draw.choice(SIGNS)]))


class Mended(unittest.TestCase):
    def setUp(self):
        self.records = numbered(BODIES, 9)
        self.text = text_of(self.records)
        self.lines = self.text.split("\n")[:-1]

    def check_copies(self, copies, expected):
        before = list(copies)
        journal = mended(copies)
        self.assertIsInstance(journal, Journal)
        self.assertEqual(journal.records(), expected)
        self.assertEqual(copies, before)

    def damaged(self, *places):
        """A copy with a character replaced in some of the lines."""
        return "".join(
            (replaced(line, [7], ["#"]) if at in places else line) + "\n" for at, line in enumerate(self.lines)
        )

    def without(self, *places):
        return "".join(line + "\n" for at, line in enumerate(self.lines) if at not in places)

    def test_undamaged_copies(self):
        for copies in ([self.text], [self.text] * 3, ["", self.text], [self.text, ""], ["x", "\n", self.text]):
            self.check_copies(copies, self.records)

    def test_no_copies_and_empty_ones(self):
        for copies in ([], [""], ["", ""], ["\n\n"], ["nothing"], [self.text[1:]], ["\n" + self.text], [self.damaged(0)]):
            self.check_copies(copies, [])

    def test_damages_at_different_places(self):
        self.check_copies([self.damaged(3, 5), self.damaged(4, 22)], self.records)
        self.check_copies([self.damaged(0, 3), self.damaged(4, 22), self.damaged(3, 4)], self.records)
        self.check_copies([self.damaged(*range(0, 23, 2)), self.damaged(*range(1, 23, 2))], self.records)
        self.check_copies([self.damaged(0), self.damaged(1)], self.records)
        copies = [self.damaged(*[at for at in range(23) if at % 5 != copy]) for copy in range(5)]
        self.check_copies(copies, self.records)

    def test_damages_at_the_same_place(self):
        for place, many in ((5, 5), (4, 4), (22, 22), (12, 12), (9, 7), (7, 7), (2, 0)):
            self.check_copies([self.damaged(place), self.damaged(place, 3 if place > 4 else 6)], self.records[:many])
            self.check_copies([self.damaged(place)], self.records[:many])

    def test_the_first_line(self):
        self.check_copies([self.damaged(0), self.damaged(0)], [])
        self.check_copies([self.without(0), self.damaged(0)], [])
        self.check_copies([self.damaged(0), self.text], self.records)
        # The first copy whose first line is one tells where the journal begins.
        later = self.without(*range(16))
        self.check_copies([later, self.text], self.records[16:])
        self.check_copies([self.text, later], self.records)
        self.check_copies([self.without(0, 1), self.text], [])

    def test_lines_lost_or_exchanged(self):
        self.check_copies([self.without(5)], self.records[:5])
        self.check_copies([self.without(5), self.without(8)], self.records)
        self.check_copies([self.without(5), self.damaged(5)], self.records[:5])
        lines = list(self.lines)
        lines[3], lines[8] = lines[8], lines[3]
        self.check_copies(["\n".join(lines) + "\n"], self.records)
        self.check_copies(["\n".join(lines[:1] + lines[:0:-1])], self.records)
        self.check_copies(["\n\n".join(self.lines)], self.records)
        self.check_copies([self.text + self.text], self.records)

    def test_the_last_line_needs_no_newline(self):
        self.check_copies([self.text[:-1]], self.records)
        self.check_copies([self.text[:-2]], self.records[:-1])
        self.check_copies([self.lines[0], "x\n" + "\n".join(self.lines[1:])], self.records)

    def test_two_bodies_with_one_number(self):
        other = record_text(14, "release y 9")
        self.check_copies([self.text, other], self.records[:5])
        self.check_copies([self.text, "x\n" + other], self.records[:5])
        self.check_copies([self.text + other], self.records[:5])
        self.check_copies([self.without(5), "x\n" + other], numbered(BODIES[:5] + ["release y 9"] + BODIES[6:7], 9))
        same = record_text(14, BODIES[5])
        self.check_copies([self.text + same, "x\n" + same], self.records)
        self.check_copies([self.text + record_text(33, "ask q g 1 11")], self.records)
        self.check_copies([self.text + record_text(32, "ask q g 1 11")], self.records + [(32, "ask q g 1 11")])

    def test_what_is_taken_need_not_be_a_journal(self):
        self.check_copies([text_of([(0, "ask a g 1 5"), (1, "ask b g 1 4"), (2, "release a 7")])], [(0, "ask a g 1 5")])
        self.check_copies([text_of([(3, "ask a g 1 5")])], [])
        self.check_copies([text_of([(0, "x")])], [])

    def test_drawn_damages(self):
        draw = random.Random(48)
        for _ in range(60):
            records = draw_journal(draw, draw.randint(1, 12), 0.3)[0].records()
            lines = text_of(records).split("\n")[:-1]
            copies = [list(lines) for _ in range(3)]
            for at, line in enumerate(lines):
                for copy in draw.sample(copies, 2):
                    places = draw.sample(range(len(line)), 2)
                    copy[at] = replaced(line, places, [draw.choice(SIGNS), draw.choice(SIGNS)])
            self.check_copies(["".join(line + "\n" for line in copy) for copy in copies], records)

    def test_against_whole_records(self):
        """One copy with its lines in order gives what is recovered from it."""
        draw = random.Random(50)
        for _ in range(200):
            bodies = [body for _, body in draw_journal(draw, draw.randint(1, 8), 0.3)[0].records()]
            draw.shuffle(bodies)
            text = text_of(numbered(bodies))
            self.assertEqual(whole_records(text), numbered(bodies))
            self.check_copies([text], recovered(text).records())
