"""How a house handles a letter, rule by rule (points 56 to 61)."""

import random
import unittest

from drawing import draw_book, draw_entries
from houses import BOOK, ROW, VIEW, HouseTest, handled, row_in, text_with, view_in, woken
from limitweave.bodies import view_body
from limitweave.house import House
from limitweave.letters import Letter
from limitweave.notation import format_entry

NEW = (5, ("t", "u", "v", "w"))
OLD = (3, ("u", "v", "w", "x"))
ALONE = (4, ("v",))
ASK = ("ask", "n", "web", 1)


def told(key, moment, lacking=(), earliest=0, view=VIEW):
    return ("", view, ("told", key, moment, lacking, earliest if lacking else moment))


class Views(HouseTest):
    """Point 56."""

    def test_a_house_without_a_view_does_nothing(self):
        for body in (("view",), ASK, ("have", 0), ("entries", 0, tuple(ROW), 3), ("again", "a"), ("release", "a")):
            for view in (None, VIEW, NEW):
                house = House("v", BOOK, "")
                self.handle(house, "u", body, view)
                self.assertEqual((house.view, house.due, house.row()), (None, None, []))
                self.assertEqual(house.wake(), [])

    def test_a_greater_number_is_learnt_with_the_due_of_the_house(self):
        for due in (None, 0, 7):
            word = "none" if due is None else str(due)
            house = self.house("v", 2, due)
            self.handle(house, "", ("view",), NEW, 0, [("u", NEW, ("have", 2))], [f"view 5 {word} t u v w"])
            self.assertEqual((house.view, house.due), (NEW, due))

    def test_the_head_learns_a_view_and_has_none_to_ask(self):
        house = self.house("u", 2, 1)
        self.handle(house, "", ("view",), (9, ("u", "q")), 0, [], ["view 9 1 u q"])

    def test_the_same_number_and_no_view_are_not_learnt(self):
        for name in "uvw":
            for view in (VIEW, None):
                self.handle(self.house(name, 3, 1), "", ("view",), view)

    def test_a_smaller_number_makes_it_do_nothing(self):
        for name, sender, body in (
            ("u", "v", ("have", 0)), ("v", "u", ("entries", 0, tuple(ROW), 0)), ("v", "u", ("entries", 9, (), 9)),
            ("w", "v", ("again", "a")), ("v", "", ("view",)), ("u", "", ASK),
        ):
            self.handle(self.house(name, 2), sender, body, OLD)

    def test_a_house_that_is_not_in_its_view_does_nothing(self):
        for body in (("view",), ASK, ("release", "b"), ("have", 0), ("entries", 0, tuple(ROW), 0), ("again", "a")):
            for sender in ("", "u", "w"):
                self.handle(self.house("z", 2, 1), sender, body, VIEW)
                self.handle(self.house("z", 2, 1), sender, body, None)
                self.handle(self.house("z", 2, 1), sender, body, OLD)

    def test_a_house_that_is_left_out_learns_it_and_does_nothing_more(self):
        other = (5, ("u", "w"))
        for body in (("view",), ("have", 0), ("entries", 0, tuple(ROW), 0), ("again", "a")):
            self.handle(self.house("v", 2, 1), "u", body, other, 0, [], ["view 5 1 u w"])

    def test_a_house_that_stands_in_the_new_view_only(self):
        house = self.house("t", 2)
        view = (5, ("u", "t"))
        self.handle(house, "u", ("entries", 1, tuple(ROW[1:3]), 3), view, 0, [
            ("", view, ("told", "c", 6, ("few",), 13)), ("", view, ("full",)), ("u", view, ("have", 3)),
        ], ["view 5 none u t", "view 5 3 u t", "ask c web 1 6"])

    def test_what_is_learnt_holds_for_the_body(self):
        # In the new view another house stands ahead of it, and none behind it.
        view = (6, ("w", "v"))
        self.handle(self.house("v", 1, 1), "w", ("entries", 0, tuple(ROW[:2]), 0), view, 0, [
            told("b", 4, view=view), ("w", view, ("have", 2)),
        ], ["view 6 1 w v", "ask b web 3 4"])
        self.handle(self.house("v", 1, 1), "u", ("entries", 0, tuple(ROW[:2]), 0), view, 0, [
            ("w", view, ("have", 1)),
        ], ["view 6 1 w v"])

    def test_the_house_ahead_is_asked_behind_all_other_letters(self):
        self.handle(self.house("v", 3, 2), "w", ("have", 2), NEW, 0, [
            ("w", NEW, ("entries", 2, (ROW[2],), 3)), ("u", NEW, ("have", 3)),
        ], ["view 5 2 t u v w"])


class Asking(HouseTest):
    """Point 57."""

    def test_only_the_head_takes_a_request_or_a_release(self):
        for name in "vw":
            for body in (ASK, ("ask", "a", "mail", 2), ("release", "b"), ("release", "a"), ("release", "n")):
                self.handle(self.house(name, 5, 2), "", body, None, 30)

    def test_a_new_key(self):
        for many, due, wanted in ((0, None, None), (0, 0, 1), (2, None, None), (2, 1, 3), (2, 9, 9), (6, 3, 7)):
            house = self.house("u", many, due)
            entry = ("ask", "n", "web", 1, 31)
            self.handle(house, "", ASK, None, 31, [("v", VIEW, ("entries", many, (entry,), wanted))], ["ask n web 1 31"])
            self.assertEqual(house.row(), ROW[:many] + [entry])

    def test_the_greater_one_of_the_moment_and_the_last_one(self):
        for many, moment, wanted in ((0, 0, 0), (0, 5, 5), (4, 2, 7), (4, 7, 7), (4, 8, 8), (6, 3, 20)):
            self.handle(self.house("u", many, 0), "", ASK, None, moment, [
                ("v", VIEW, ("entries", many, (ASK + (wanted,),), max(0, many + 1))),
            ], [f"ask n web 1 {wanted}"])
            entry = ("release", "b", wanted)
            if many > 1:
                self.handle(self.house("u", many, 0), "", ("release", "b"), None, moment, [
                    ("v", VIEW, ("entries", many, (entry,), many + 1)),
                ], [f"release b {wanted}"])

    def test_the_only_house_tells_the_answer(self):
        house = self.house("v", 2, 0, ALONE)
        self.handle(house, "", ASK, None, 4, [told("n", 4, ("few",), 13, ALONE)], ["ask n web 1 4"])
        self.handle(house, "", ("ask", "o", "mail", 5), None, 4, [
            told("o", 4, ("few", "jobs"), None, ALONE),
        ], ["ask o mail 5 4"])
        self.handle(house, "", ("release", "b"), None, 9, [("", ALONE, ("released", "b"))], ["release b 9"])
        self.handle(house, "", ("ask", "p", "mail", 2), None, 13, [told("p", 13, view=ALONE)], ["ask p mail 2 13"])

    def test_a_known_key_is_told_again(self):
        for key in "abcde":
            # What else the letter says of a known key does not matter.
            for body in (("ask", key, "mail", 2), ("ask", key, "x", 1000)):
                self.handle(self.house("u", 6, 0), "", body, None, 30, [("v", VIEW, ("again", key))])

    def test_a_release_of_what_holds_nothing(self):
        for key in "acd":
            self.handle(self.house("u", 6, 0), "", ("release", key), None, 30, [("v", VIEW, ("again", key))])
        self.handle(self.house("u", 6, 0), "", ("release", "n"), None, 30)
        self.handle(self.house("u", 0, 0), "", ("release", "a"), None, 30)

    def test_a_release_of_what_was_let_in(self):
        for many, key in ((1, "a"), (2, "a"), (6, "b"), (6, "e")):
            entry = ("release", key, 30)
            self.handle(self.house("u", many, 1), "", ("release", key), None, 30, [
                ("v", VIEW, ("entries", many, (entry,), many + 1)),
            ], [f"release {key} 30"])

    def test_a_head_of_a_new_view_that_does_not_know_its_due(self):
        house = self.house("u", 1, None)
        self.handle(house, "", ASK, None, 9, [("v", VIEW, ("entries", 1, (ASK + (9,),), None))], ["ask n web 1 9"])
        self.assertIs(house.is_full(), False)


class Taking(HouseTest):
    """Point 58."""

    def test_entries_of_any_house_but_the_one_ahead(self):
        for name, senders in (("u", ("v", "w", "", "z")), ("v", ("w", "", "v")), ("w", ("u", "", "w"))):
            for sender in senders:
                for body in (("entries", 0, tuple(ROW), 4), ("entries", 1, tuple(ROW[1:]), 1), ("entries", 9, (), 9)):
                    self.handle(self.house(name, 1), sender, body)

    def test_entries_that_it_has_some_of_them_or_none(self):
        for many in range(4):
            for first in range(many + 1):
                for end in range(first, 7):
                    new = ROW[many:end]
                    sends = [("w", VIEW, ("entries", many, tuple(new), max(1, many + len(new))))] if new else []
                    house = self.house("v", many, 1)
                    if many == 0 and new:
                        sends.append(("", VIEW, ("full",)))
                    self.handle(house, "u", ("entries", first, tuple(ROW[first:end]), 5), sends=sends,
                                writes=[format_entry(entry) for entry in new])
                    self.assertEqual(house.row(), ROW[:max(many, end)])
                    self.assertEqual(house.due, 1)

    def test_the_last_house_tells_them(self):
        self.handle(self.house("w", 1, 1), "v", ("entries", 0, tuple(ROW), 9), sends=[
            told("b", 4), told("c", 6, ("few",), 13), ("", VIEW, ("released", "a")),
            told("d", 8, ("few", "jobs"), None), told("e", 20),
        ], writes=[format_entry(entry) for entry in ROW[1:]])

    def test_the_due_is_taken_once(self):
        for due, told_due, writes in (
            (None, None, []), (None, 3, ["view 4 3 u v w"]), (3, None, []), (3, 4, []), (None, 0, ["view 4 0 u v w"]),
        ):
            house = self.house("v", 1, due)
            sends = [("", VIEW, ("full",))] if told_due == 0 else []
            self.handle(house, "u", ("entries", 1, (), told_due), sends=sends, writes=writes)
            self.assertEqual(house.due, told_due if due is None else due)

    def test_a_gap(self):
        for due, writes in ((None, ["view 4 9 u v w"]), (2, [])):
            house = self.house("v", 1, due)
            self.handle(house, "u", ("entries", 2, tuple(ROW[2:]), 9), sends=[("u", VIEW, ("have", 1))], writes=writes)
            self.assertEqual(house.row(), ROW[:1])
        self.handle(self.house("v", 1, 1), "u", ("entries", 5, (), 9), sends=[("u", VIEW, ("have", 1))])

    def test_a_gap_in_a_letter_with_a_new_view(self):
        self.handle(self.house("v", 1, 1), "u", ("entries", 4, tuple(ROW[4:]), 9), NEW, sends=[
            ("u", NEW, ("have", 1)),
        ], writes=["view 5 1 t u v w"])

    def test_a_gap_and_a_due_that_is_reached(self):
        self.handle(self.house("v", 2), "u", ("entries", 4, tuple(ROW[4:]), 2), sends=[
            ("", VIEW, ("full",)), ("u", VIEW, ("have", 2)),
        ], writes=["view 4 2 u v w"])

    def test_it_becomes_full(self):
        for many in range(5):
            for due in range(7):
                for known in (True, False):
                    house = self.house("v", many, due if known else None)
                    body = ("entries", many, tuple(ROW[many:4]), None if known else due)
                    new = ROW[many:4]
                    sends = [("w", VIEW, ("entries", many, tuple(new), max(4, due)))] if new else []
                    if due <= 4 and not (known and many >= due):
                        sends.append(("", VIEW, ("full",)))
                    writes = [] if known else [f"view 4 {due} u v w"]
                    self.handle(house, "u", body, sends=sends, writes=writes + [format_entry(entry) for entry in new])

    def test_the_last_house_becomes_full_behind_what_it_tells(self):
        self.handle(self.house("w", 1), "v", ("entries", 1, tuple(ROW[1:2]), 2), sends=[
            told("b", 4), ("", VIEW, ("full",)),
        ], writes=["view 4 2 u v w", "ask b web 3 4"])

    def test_without_a_due_it_is_not_full(self):
        self.handle(self.house("v", 0), "u", ("entries", 0, tuple(ROW[:2]), None), sends=[
            ("w", VIEW, ("entries", 0, tuple(ROW[:2]), None)),
        ], writes=["ask a mail 2 3", "ask b web 3 4"])


class PassingOn(HouseTest):
    """Point 59."""

    def test_as_many_fewer_and_more_entries_than_it_has(self):
        for name, other in (("u", "v"), ("v", "w")):
            for many in range(5):
                for have in range(7):
                    for due, greater in ((None, None), (0, many), (3, max(3, many)), (9, 9)):
                        body = ("entries", have, tuple(ROW[have:many]), greater)
                        sends = [(other, VIEW, body)] if have <= many else []
                        self.handle(self.house(name, many, due), other, ("have", have), sends=sends)

    def test_to_no_other_house(self):
        for name, senders in (("u", ("w", "u", "", "z")), ("v", ("u", "v", "")), ("w", ("v", "u", "", "w"))):
            for sender in senders:
                for have in (0, 2, 3, 9):
                    self.handle(self.house(name, 3, 1), sender, ("have", have))


class TellingAgain(HouseTest):
    """Point 60."""

    def test_the_last_house_tells(self):
        house = self.house("w", 6, 1)
        for key, sends in (
            ("a", [told("a", 3), ("", VIEW, ("released", "a"))]), ("b", [told("b", 4)]),
            ("c", [told("c", 6, ("few",), 13)]), ("d", [told("d", 8, ("few", "jobs"), None)]), ("e", [told("e", 20)]),
            ("n", []),
        ):
            self.handle(house, "v", ("again", key), sends=sends, moment=50)

    def test_a_key_that_was_refused_is_never_released(self):
        bodies = [view_body((4, 0, ("v", "w")))] + [format_entry(entry) for entry in ROW] + ["release c 21"]
        house = House("w", BOOK, text_with(bodies))
        view = (4, ("v", "w"))
        self.handle(house, "v", ("again", "c"), view, sends=[told("c", 6, ("few",), 13, view)])

    def test_another_house_hands_it_on(self):
        for key in "abcde":
            self.handle(self.house("v", 6, 1), "u", ("again", key), sends=[("w", VIEW, ("again", key))])
        self.handle(self.house("v", 6, 1), "u", ("again", "n"))
        self.handle(self.house("v", 2, 1), "u", ("again", "c"))

    def test_only_of_the_house_ahead(self):
        for name, senders in (("u", ("", "v", "w", "u")), ("v", ("", "w", "v")), ("w", ("", "u", "w"))):
            for sender in senders:
                for key in "acn":
                    self.handle(self.house(name, 6, 1), sender, ("again", key))

    def test_the_only_house(self):
        house = self.house("v", 6, 1, ALONE)
        for body in (("ask", "a", "mail", 2), ("release", "a")):
            self.handle(house, "", body, None, 40, [told("a", 3, view=ALONE), ("", ALONE, ("released", "a"))])
        self.handle(house, "", ("release", "c"), None, 40, [told("c", 6, ("few",), 13, ALONE)])
        self.handle(house, "", ("ask", "b", "web", 3), None, 40, [told("b", 4, view=ALONE)])
        self.handle(house, "u", ("again", "a"), ALONE, 40)


class Waking(HouseTest):
    """Point 61."""

    def test_each_place(self):
        for many in range(4):
            for due in (None, 0, 2, 5):
                full = due is not None and many >= due
                for name, ahead in (("u", None), ("v", "u"), ("w", "v")):
                    house = self.house(name, many, due)
                    text = house.journal_text()
                    sends = [(ahead, VIEW, ("have", many))] if ahead else []
                    self.assertEqual(house.wake(), sends + ([("", VIEW, ("full",))] if full else []))
                    self.assertEqual(house.journal_text(), text)
                self.assertEqual(self.house("v", many, due, ALONE).wake(), [("", ALONE, ("full",))] if full else [])
                self.assertEqual(self.house("z", many, due).wake(), [])


class Drawn(unittest.TestCase):
    """Each rule at once, against the rules written once more."""

    def draw_letter(self, draw, name, row, view):
        number = draw.choice((view[0] - 1, view[0], view[0], view[0], view[0], view[0] + 1))
        houses = view[1] if number == view[0] else tuple(draw.sample("uvwxyz", draw.randint(1, 4)))
        first = draw.randint(0, len(row))
        end = draw.randint(first, len(row))
        keys = [entry[1] for entry in row] + ["new-a", "new-b"]
        body = draw.choice((
            ("view",), ("have", first), ("have", draw.randint(0, 3)), ("again", draw.choice(keys)),
            ("ask", draw.choice(keys), draw.choice("abc"), draw.randint(1, 4)), ("release", draw.choice(keys)),
            ("entries", first, tuple(row[first:end]), draw.choice((None, end, draw.randint(0, 9)))),
            ("entries", 0, tuple(row[:end]), draw.choice((None, end))),
        ))
        from_weave = body[0] in ("view", "ask", "release")
        sender = "" if from_weave else draw.choice(houses)
        return Letter(0, sender, name, (number, houses) if body[0] not in ("ask", "release") else None, body)

    def test_drawn_houses_and_letters(self):
        seen = {}
        for seed in range(400):
            draw = random.Random(f"handle {seed}")
            book, row = draw_book(draw, 3), draw_entries(draw, 10)
            view = (draw.randint(2, 5), tuple(draw.sample("uvwxyz", draw.randint(1, 4))))
            name = draw.choice(view[1])
            due = draw.choice((None, None, 0, 3, 8))
            bodies = [view_body((view[0], due, view[1]))] + [format_entry(entry) for entry in row[:draw.randint(0, 10)]]
            house = House(name, book, text_with(bodies))
            for _ in range(15):
                # What a house ahead has begins with what this one has, until it takes a request of its own.
                if row_in(bodies) != row[:len(row_in(bodies))]:
                    row = row_in(bodies)
                letter = self.draw_letter(draw, name, row, view_in(bodies)[0])
                moment = draw.randint(0, 40)
                bodies, sends = handled(name, book, bodies, letter, moment)
                self.assertEqual(house.handle(letter, moment), sends, (seed, letter.parts()))
                self.assertEqual(house.journal_text(), text_with(bodies))
                self.assertEqual((house.row(), house.view, house.due), (row_in(bodies),) + view_in(bodies))
                self.assertEqual(house.wake(), woken(name, bodies))
                for _, _, body in sends:
                    seen[body[0]] = seen.get(body[0], 0) + 1
        self.assertEqual(sorted(seen), ["again", "entries", "full", "have", "released", "told"])
        self.assertGreater(min(seen.values()), 20)


if __name__ == "__main__":
    unittest.main()
