"""What a house keeps: its row, its view, its due, and when it is full (point 54)."""

import random
import unittest

from houses import BOOK, ROW, VIEW, HouseTest, text_with
from journals import draw_view, numbered, text_of
from drawing import draw_book, draw_entries
from limitweave.bodies import view_body
from limitweave.house import House, first_text
from limitweave.journal import Journal, recovered
from limitweave.letters import Letter
from limitweave.notation import format_entry
from limitweave.records import record_text


class FirstText(unittest.TestCase):
    def test_the_view_and_the_due(self):
        for view, due, body in (
            ((1, ("a",)), 0, "view 1 0 a"), ((7, ("a", "b2", "c")), None, "view 7 none a b2 c"),
            ((999999, tuple("abcdefgh")), 999999, "view 999999 999999 a b c d e f g h"),
        ):
            text = first_text(view, due)
            self.assertEqual(text, record_text(0, body))
            house = House("a", BOOK, text)
            self.assertEqual((house.row(), house.view, house.due), ([], view, due))
            self.assertEqual(house.journal_text(), text)


class Kept(HouseTest):
    def test_the_empty_text(self):
        house = House("a", BOOK, "")
        self.assertEqual((house.name, house.view, house.due), ("a", None, None))
        self.assertEqual((house.row(), house.journal_text()), ([], ""))
        self.assertIs(house.is_full(), False)

    def test_the_last_view_and_all_entries(self):
        bodies = ["view 2 none a b", format_entry(ROW[0]), "view 3 none b c", format_entry(ROW[1]), "view 3 1 b c"]
        wanted = [
            (None, None), ((2, ("a", "b")), None), ((2, ("a", "b")), None), ((3, ("b", "c")), None),
            ((3, ("b", "c")), None), ((3, ("b", "c")), 1),
        ]
        for many in range(6):
            house = House("b", BOOK, text_with(bodies[:many]))
            self.assertEqual((house.view, house.due), wanted[many])
            self.assertEqual(house.row(), ROW[:(0, 0, 1, 1, 2, 2)[many]])
            self.assertEqual(house.journal_text(), text_with(bodies[:many]))
            self.assertIs(house.is_full(), many == 5)

    def test_entries_without_a_view(self):
        house = House("b", BOOK, text_with([format_entry(entry) for entry in ROW]))
        self.assertEqual((house.row(), house.view, house.due), (ROW, None, None))
        self.assertIs(house.is_full(), False)

    def test_a_text_that_is_torn_off_at_each_place(self):
        for seed in range(12):
            draw = random.Random(f"house {seed}")
            journal, book = Journal(), draw_book(draw, 2)
            for entry in draw_entries(draw, 6):
                if draw.random() < 0.5:
                    journal.write_view(draw_view(draw, journal.last_view()))
                journal.write(entry)
            text = journal.text()
            for characters in range(len(text) + 1):
                house = House("a", book, text[:characters])
                torn = recovered(text[:characters])
                number, due, houses = torn.last_view() or (None, None, None)
                self.assertEqual(house.row(), torn.entries())
                self.assertEqual(house.view, (number, houses) if torn.last_view() else None)
                self.assertEqual(house.due, due)
                self.assertEqual(house.journal_text(), torn.text())
                self.assertIs(house.is_full(), due is not None and len(torn.entries()) >= due)

    def test_a_house_goes_on_behind_what_was_torn_off(self):
        text = text_with([view_body((4, 0, ("v",)))] + [format_entry(entry) for entry in ROW[:2]])
        house = House("v", BOOK, text[:-1])
        self.assertEqual(house.row(), ROW[:1])
        sent = house.handle(Letter(3, "", "v", None, ("ask", "z", "web", 1)), 9)
        self.assertEqual(sent, [("", (4, ("v",)), ("told", "z", 9, (), 9))])
        self.assertEqual(house.journal_text(), text_with(["view 4 0 v", "ask a mail 2 3", "ask z web 1 9"]))

    def test_when_a_house_is_full(self):
        for many in range(5):
            self.assertIs(self.house("v", many).is_full(), False)
            for due in range(6):
                self.assertIs(self.house("v", many, due).is_full(), many >= due)
                self.assertIs(self.house("not", many, due).is_full(), many >= due)

    def test_what_is_returned_may_be_changed(self):
        house = self.house("v", 3, 2)
        house.row().append(1)
        house.row()[0] = 2
        house.wake().append(3)
        sent = house.handle(Letter(0, "w", "v", VIEW, ("have", 0)), 0)
        sent[0] = 4
        self.assertEqual(house.row(), ROW[:3])
        self.assertEqual(house.wake(), [("u", VIEW, ("have", 3)), ("", VIEW, ("full",))])

    def test_two_houses_do_not_touch_each_other(self):
        text = text_of(numbered(["view 4 0 v"]))
        first, second = House("v", BOOK, text), House("v", BOOK, text)
        first.handle(Letter(0, "", "v", None, ("ask", "k", "web", 1)), 5)
        self.assertEqual((second.row(), second.journal_text()), ([], text))
        self.assertEqual(len(first.row()), 1)


if __name__ == "__main__":
    unittest.main()
