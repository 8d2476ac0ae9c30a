"""The weave, method by method (points 55 and 62 to 66, 70)."""

import unittest

from limitweave.books import Book
from limitweave.errors import InvalidName, InvalidRequest, KeyKnown, NameTaken, NoView, TooLarge, UnknownHouse
from limitweave.errors import UnknownKey, UnknownLetter
from limitweave.house import House, first_text
from limitweave.keeper import Answer
from limitweave.letters import Letter
from limitweave.replays import answers_for
from limitweave.weave import Weave
from weaves import all_of

BOOK = Book([("few", "window", (), (5, 10)), ("jobs", "held", ("mail",), (6,))])


class WeaveTest(unittest.TestCase):
    def weave(self, houses="abc", book=BOOK):
        return Weave(book, list(houses))

    def bodies(self, weave):
        return [(letter.sender, letter.receiver, letter.view, letter.body) for letter in weave.letters()]

    def deliver_all(self, weave):
        while weave.letters():
            weave.deliver(weave.letters()[0].number)

    def told(self, weave):
        return {key: answer.parts() for key, answer in weave.told().items()}

    def check_raises(self, weave, error, call, *given, attribute=None, **named):
        """Look that a call raises this error, with the value of its attribute, and that nothing has changed."""
        before = all_of(weave)
        with self.assertRaises(error) as caught:
            call(*given, **named)
        self.assertIs(caught.exception.__class__, error)
        if attribute is not None:
            self.assertEqual(getattr(caught.exception, attribute[0]), attribute[1])
        self.assertEqual(all_of(weave), before)


class Beginning(WeaveTest):
    def test_the_first_view_and_the_first_state(self):
        for many in range(1, 9):
            houses = list("hgfedcba"[:many])
            weave = Weave(BOOK, houses)
            view = (1, tuple(houses))
            self.assertIs(weave.book, BOOK)
            self.assertEqual((weave.moment, weave.present_view(), weave.houses()), (0, view, houses))
            self.assertEqual((weave.full_houses(), weave.letters(), weave.told()), (houses, [], {}))
            self.assertEqual((weave.untold(), weave.untold_releases(), weave.released()), ([], [], []))
            for house in houses:
                self.assertIs(weave.stands(house), True)
                self.assertEqual((weave.row_of(house), weave.view_of(house), weave.due_of(house)), ([], view, 0))
                self.assertEqual(weave.journal_text(house), first_text(view, 0))

    def test_houses_that_make_no_view(self):
        for houses, error in (
            ([], NoView), (list("abcdefghi"), NoView), (["a", "A"], InvalidName), (["a", "a", ""], InvalidName),
            (["a"] * 9, NameTaken), (["b", "a", "b"], NameTaken),
        ):
            with self.assertRaises(error):
                Weave(BOOK, houses)

    def test_the_list_that_is_passed(self):
        houses = ["a", "b"]
        weave = Weave(BOOK, houses)
        houses.append("c")
        weave.houses().append("d")
        self.assertEqual((weave.houses(), weave.present_view()), (["a", "b"], (1, ("a", "b"))))

    def test_what_is_returned_may_be_changed(self):
        weave = self.weave()
        weave.ask("k", "web", 1)
        before = all_of(weave)
        weave.letters().clear()
        weave.full_houses().clear()
        weave.row_of("a").append(1)
        weave.told()["x"] = 1
        for one in (weave.untold(), weave.untold_releases(), weave.released(), weave.houses()):
            one.append("z")
        self.assertEqual(all_of(weave), before)

    def test_unknown_houses(self):
        weave = self.weave()
        weave.leave_out("b")
        for call in (weave.stands, weave.row_of, weave.journal_text, weave.view_of, weave.due_of, weave.wake, weave.fall,
                     weave.rise, weave.clear_disk, weave.leave_out):
            for house in ("z", "", "A"):
                self.check_raises(weave, UnknownHouse, call, house, attribute=("house", house))
        self.assertIs(weave.stands("b"), True)


class Asking(WeaveTest):
    def test_a_request_on_its_way(self):
        weave = self.weave()
        self.assertEqual(weave.ask("k1", "web", 2), 0)
        self.assertEqual(weave.ask("k2", "mail", 1, house="c"), 1)
        self.assertEqual(weave.ask("k1", "web", 2), 2)
        self.assertEqual(self.bodies(weave), [
            ("", "a", None, ("ask", "k1", "web", 2)), ("", "c", None, ("ask", "k2", "mail", 1)),
            ("", "a", None, ("ask", "k1", "web", 2)),
        ])
        self.assertEqual([letter.number for letter in weave.letters()], [0, 1, 2])
        self.assertTrue(all(isinstance(letter, Letter) for letter in weave.letters()))
        self.assertEqual(weave.untold(), ["k1", "k2"])

    def test_the_head_of_the_present_view(self):
        weave = self.weave()
        weave.leave_out("a")
        number = weave.ask("k", "web", 2)
        self.assertEqual(weave.letters()[-1].parts(), (number, "", "b", None, ("ask", "k", "web", 2)))
        number = weave.ask("k", "web", 2, house="a")
        self.assertEqual(weave.letters()[-1].parts(), (number, "", "a", None, ("ask", "k", "web", 2)))

    def test_houses_that_have_fallen_or_were_cleared_are_sent_letters_too(self):
        weave = self.weave()
        weave.fall("a")
        weave.clear_disk("b")
        weave.ask("k", "web", 2)
        weave.ask("k", "web", 2, house="b")
        self.assertEqual([letter.receiver for letter in weave.letters()], ["a", "b"])

    def test_errors_alone(self):
        weave = self.weave()
        weave.ask("k", "web", 2)
        for key, group, cost in (("", "web", 2), ("K", "web", 2), ("n", "-", 2), ("n", "web", 0), ("n", "web", 1001)):
            self.check_raises(weave, InvalidRequest, weave.ask, key, group, cost)
        self.check_raises(weave, UnknownHouse, weave.ask, "n", "web", 2, house="z", attribute=("house", "z"))
        self.check_raises(weave, KeyKnown, weave.ask, "k", "web", 3, attribute=("key", "k"))
        self.check_raises(weave, KeyKnown, weave.ask, "k", "mail", 2, attribute=("key", "k"))

    def test_two_errors_at_once(self):
        weave = self.weave()
        weave.ask("k", "web", 2)
        self.check_raises(weave, InvalidRequest, weave.ask, "k", "web", 0)
        self.check_raises(weave, InvalidRequest, weave.ask, "K", "web", 1, house="z")
        self.check_raises(weave, UnknownHouse, weave.ask, "k", "web", 3, house="z")

    def test_a_call_that_raises_asks_nothing(self):
        weave = self.weave()
        self.check_raises(weave, UnknownHouse, weave.ask, "k", "web", 3, house="z")
        self.assertEqual(weave.ask("k", "mail", 1), 0)

    def test_two_thousand_keys(self):
        weave = self.weave("a", Book([("all", "window", (), (1000000, 5))]))
        for at in range(2000):
            weave.ask(f"k{at}", "web", 1)
        for turn in range(2):
            self.check_raises(weave, TooLarge, weave.ask, "one-more", "web", 1)
            self.check_raises(weave, InvalidRequest, weave.ask, "one-more", "web", 0)
            self.check_raises(weave, UnknownHouse, weave.ask, "one-more", "web", 1, house="z")
            self.check_raises(weave, KeyKnown, weave.ask, "k1", "web", 2)
            self.assertEqual(weave.ask("k1999", "web", 1), 2000 if turn == 0 else weave.letters()[-1].number)
            weave.settle()
        self.assertEqual((len(weave.told()), len(weave.row_of("a"))), (2000, 2000))


class Releasing(WeaveTest):
    def begin(self):
        """A weave that was told of one key that was let in and of one that was refused."""
        weave = self.weave()
        weave.ask("let", "web", 5)
        weave.ask("refused", "web", 1)
        self.deliver_all(weave)
        return weave

    def test_a_release_on_its_way(self):
        weave = self.begin()
        number = weave.release("let")
        self.assertEqual(weave.release("let", house="c"), number + 1)
        self.assertEqual(self.bodies(weave), [
            ("", "a", None, ("release", "let")), ("", "c", None, ("release", "let")),
        ])
        self.assertEqual((weave.untold_releases(), weave.released()), (["let"], []))
        self.deliver_all(weave)
        self.assertEqual((weave.untold_releases(), weave.released()), ([], ["let"]))
        self.assertEqual(weave.row_of("c")[-1], ("release", "let", 0))
        weave.release("let")
        self.assertEqual((weave.untold_releases(), weave.released()), ([], ["let"]))

    def test_what_was_not_told_to_be_let_in(self):
        weave = self.begin()
        weave.ask("asked", "web", 1)
        for key in ("refused", "asked", "none", ""):
            self.check_raises(weave, UnknownKey, weave.release, key, attribute=("key", key))
            self.check_raises(weave, UnknownKey, weave.release, key, house="z", attribute=("key", key))
        self.check_raises(weave, UnknownHouse, weave.release, "let", house="z", attribute=("house", "z"))

    def test_the_order_in_which_releases_were_first_asked_for(self):
        weave = Weave(Book([("all", "window", (), (1000000, 5))]), ["a"])
        for key in ("x", "y", "z"):
            weave.ask(key, "web", 1)
        self.deliver_all(weave)
        numbers = [weave.release(key) for key in ("z", "x", "y", "z", "x")]
        self.assertEqual((weave.untold_releases(), weave.released()), (["z", "x", "y"], []))
        weave.deliver(numbers[2])
        weave.deliver(weave.letters()[-1].number)
        self.assertEqual((weave.untold_releases(), weave.released()), (["z", "x"], ["y"]))
        weave.deliver(numbers[0])
        weave.deliver(weave.letters()[-1].number)
        self.assertEqual((weave.untold_releases(), weave.released()), (["x"], ["z", "y"]))


class Ticking(WeaveTest):
    def test_up_to_the_greatest_moment(self):
        weave = self.weave()
        for moments, moment in ((0, 0), (5, 5), (0, 5), (999999994, 999999999), (1, 1000000000), (1, 1000000000)):
            self.assertIsNone(weave.tick(moments))
            self.assertEqual(weave.moment, moment)
        weave = self.weave()
        weave.tick(10 ** 12)
        self.assertEqual(weave.moment, 1000000000)

    def test_requests_come_at_the_moment_of_their_delivery(self):
        weave = self.weave()
        weave.tick(3)
        weave.ask("k", "web", 5)
        weave.ask("m", "web", 1)
        weave.tick(4)
        weave.deliver(0)
        weave.tick(1)
        weave.deliver(1)
        self.assertEqual([entry[-1] for entry in weave.row_of("a")], [7, 8])
        self.deliver_all(weave)
        self.assertEqual(self.told(weave), {"k": ("k", 7, (), 7), "m": ("m", 8, ("few",), 17)})


class Letters(WeaveTest):
    def test_the_way_of_a_request_along_the_chain(self):
        weave = self.weave()
        weave.ask("k", "web", 2)
        view, entry = (1, ("a", "b", "c")), ("ask", "k", "web", 2, 0)
        self.assertIsNone(weave.deliver(0))
        self.assertEqual(weave.letters()[0].parts(), (1, "a", "b", view, ("entries", 0, (entry,), 1)))
        weave.deliver(1)
        self.assertEqual(weave.letters()[0].parts(), (2, "b", "c", view, ("entries", 0, (entry,), 1)))
        weave.deliver(2)
        self.assertEqual(weave.letters()[0].parts(), (3, "c", "", view, ("told", "k", 0, (), 0)))
        self.assertEqual((weave.told(), weave.untold()), ({}, ["k"]))
        weave.deliver(3)
        self.assertEqual((weave.letters(), weave.untold()), ([], []))
        self.assertIsInstance(weave.told()["k"], Answer)
        self.assertEqual(self.told(weave), {"k": ("k", 0, (), 0)})

    def test_any_order(self):
        weave = self.weave("ab")
        numbers = [weave.ask(f"k{at}", "web", 1) for at in range(4)]
        for number in (numbers[2], numbers[0], numbers[3], numbers[1]):
            weave.deliver(number)
        keys = ["k2", "k0", "k3", "k1"]
        self.assertEqual([entry[1] for entry in weave.row_of("a")], keys)
        # The last letter comes first: what is missing ahead of its entries is asked for.
        weave.deliver(weave.letters()[-1].number)
        self.assertEqual(weave.row_of("b"), [])
        self.assertEqual(self.bodies(weave)[-1], ("b", "a", (1, ("a", "b")), ("have", 0)))
        self.deliver_all(weave)
        self.assertEqual(weave.row_of("b"), weave.row_of("a"))
        self.assertEqual(sorted(weave.told()), sorted(keys))

    def test_lost(self):
        weave = self.weave("a")
        weave.ask("k", "web", 2)
        weave.ask("m", "web", 2)
        self.assertIsNone(weave.lose(0))
        self.deliver_all(weave)
        self.assertEqual((sorted(weave.told()), weave.untold()), (["m"], ["k"]))
        self.assertEqual(weave.ask("n", "web", 1), 3)

    def test_doubled(self):
        weave = self.weave("ab")
        weave.ask("k", "web", 2)
        weave.ask("m", "web", 2)
        self.assertEqual((weave.double(0), weave.double(2)), (2, 3))
        self.assertEqual([letter.number for letter in weave.letters()], [0, 1, 2, 3])
        self.assertEqual(weave.letters()[2].parts(), (2, "", "a", None, ("ask", "k", "web", 2)))
        weave.deliver(3)
        weave.double(4)
        self.assertEqual(weave.letters()[-1].parts()[1:], weave.letters()[-2].parts()[1:])
        self.deliver_all(weave)
        self.assertEqual([entry[1] for entry in weave.row_of("b")], ["k", "m"])

    def test_numbers_that_no_letter_has(self):
        weave = self.weave("a")
        weave.ask("k", "web", 2)
        weave.ask("m", "web", 2)
        weave.lose(0)
        weave.deliver(1)
        for number in (0, 1, 3, 99):
            for call in (weave.deliver, weave.lose, weave.double):
                self.check_raises(weave, UnknownLetter, call, number, attribute=("number", number))
            self.check_raises(weave, UnknownLetter, weave.deliver, number, falls_after=0)

    def test_a_house_that_has_fallen_gets_no_letters(self):
        weave = self.weave()
        weave.ask("k", "web", 2)
        weave.fall("a")
        text = weave.journal_text("a")
        weave.deliver(0)
        self.assertEqual((weave.letters(), weave.journal_text("a"), weave.untold()), ([], text, ["k"]))
        weave.rise("a")
        self.assertEqual((weave.letters(), weave.row_of("a")), ([], []))

    def test_the_first_answer_stays_and_is_told_again(self):
        weave = self.weave("ab")
        weave.ask("k", "web", 2)
        self.deliver_all(weave)
        weave.tick(9)
        weave.ask("k", "web", 2)
        weave.deliver(weave.letters()[0].number)
        self.assertEqual(self.bodies(weave), [("a", "b", (1, ("a", "b")), ("again", "k"))])
        self.deliver_all(weave)
        self.assertEqual(self.told(weave), {"k": ("k", 0, (), 0)})


class Falling(WeaveTest):
    def test_fall_and_rise(self):
        weave = self.weave()
        self.assertIs(weave.rise("a"), False)
        self.assertIs(weave.fall("a"), True)
        self.assertIs(weave.stands("a"), False)
        before = all_of(weave)
        self.assertIs(weave.fall("a"), False)
        self.assertEqual(all_of(weave), before)
        self.assertIs(weave.rise("a"), True)
        self.assertIs(weave.stands("a"), True)
        self.assertIs(weave.rise("a"), False)

    def test_what_a_house_keeps(self):
        weave = self.weave()
        weave.ask("k", "web", 2)
        weave.deliver(0)
        state = [weave.row_of("a"), weave.view_of("a"), weave.due_of("a"), weave.journal_text("a")]
        for deed in (weave.fall, weave.rise):
            deed("a")
            self.assertEqual([weave.row_of("a"), weave.view_of("a"), weave.due_of("a"), weave.journal_text("a")], state)
        self.assertEqual(weave.full_houses(), ["a", "b", "c"])
        weave.ask("k", "web", 2)
        weave.deliver(2)
        self.assertEqual(self.bodies(weave)[-1][3], ("again", "k"))

    def falls(self, falls_after, at=0, houses="abc", rises=True):
        """A weave in which the house at a place falls while it writes entries, and how its text begins and goes on."""
        weave = self.weave(houses)
        for key in ("k", "m"):
            weave.ask(key, "web", 2)
        weave.deliver(0)
        weave.deliver(1)
        for _ in range(at - 1):
            weave.deliver(weave.letters()[0].number)
            weave.deliver(weave.letters()[0].number)
        if at == 0:
            weave.ask("n", "web", 1)
        house = houses[at]
        before = weave.journal_text(house)
        number = weave.letters()[-1 if at == 0 else 0].number
        other = self.copied(weave, house, number, before)
        letters = [letter.parts() for letter in weave.letters() if letter.number != number]
        weave.deliver(number, falls_after=falls_after)
        self.assertIs(weave.stands(house), False)
        self.assertEqual([letter.parts() for letter in weave.letters()], letters)
        self.assertEqual(weave.journal_text(house), before + other[len(before):][:falls_after])
        return weave, house, before, other

    def copied(self, weave, house, number, before):
        """The text of the house as it would be behind the letter."""
        standing = House(house, BOOK, before)
        standing.handle([letter for letter in weave.letters() if letter.number == number][0], weave.moment)
        return standing.journal_text()

    def test_each_number_of_characters(self):
        for at in range(3):
            _, _, before, whole = self.falls(0, at)
            many = len(whole) - len(before)
            self.assertGreater(many, 20)
            for falls_after in list(range(many + 3)) + [1000]:
                weave, house, before, whole = self.falls(falls_after, at)
                count = whole[:len(before) + falls_after].count("\n") - 1
                self.assertEqual(len(weave.row_of(house)), count)
                text = "".join(line + "\n" for line in whole.split("\n")[:count + 1])
                weave.rise(house)
                self.assertEqual(weave.journal_text(house), text)
                self.assertEqual((len(weave.row_of(house)), weave.due_of(house)), (count, 0))
                weave.settle()
                self.assertEqual(len(weave.told()), 3 if at == 0 else 2)

    def test_a_house_that_writes_nothing_falls_too(self):
        for falls_after in (0, 5):
            weave = self.weave()
            text = weave.journal_text("b")
            weave.ask("k", "web", 2, house="b")
            weave.deliver(0, falls_after=falls_after)
            self.assertEqual((weave.stands("b"), weave.journal_text("b"), weave.letters()), (False, text, []))
            weave.ask("k", "web", 2)
            weave.settle()
            weave.ask("k", "web", 2)
            weave.deliver(weave.letters()[-1].number, falls_after=falls_after)
            self.assertEqual((weave.stands("a"), weave.letters()), (False, []))

    def test_a_view_that_is_torn_off(self):
        weave = self.weave()
        weave.leave_out("c")
        text = weave.journal_text("b")
        for falls_after in range(len("view 2 0 a b") + 12):
            number = weave.double(weave.letters()[1].number)
            weave.deliver(number, falls_after=falls_after)
            self.assertEqual(weave.journal_text("b")[:len(text)], text)
            self.assertEqual(len(weave.journal_text("b")), len(text) + falls_after)
            self.assertEqual(weave.view_of("b"), (1, ("a", "b", "c")))
            weave.rise("b")
            self.assertEqual(weave.journal_text("b"), text)
        number = weave.double(weave.letters()[1].number)
        weave.deliver(number, falls_after=10 ** 9)
        self.assertEqual((weave.view_of("b"), weave.stands("b")), ((2, ("a", "b")), False))

    def test_the_weave_and_houses_that_have_fallen_already(self):
        weave = self.weave("a")
        weave.ask("k", "web", 2)
        weave.deliver(0)
        weave.deliver(1, falls_after=0)
        self.assertEqual((self.told(weave), weave.stands("a")), ({"k": ("k", 0, (), 0)}, True))
        weave.ask("m", "web", 2)
        weave.ask("m", "web", 2)
        weave.deliver(2, falls_after=6)
        text = weave.journal_text("a")
        weave.deliver(3, falls_after=9)
        self.assertEqual((weave.journal_text("a"), weave.stands("a"), weave.letters()), (text, False, []))


class Clearing(WeaveTest):
    def test_the_text_is_empty_from_then_on(self):
        weave = self.weave()
        weave.ask("k", "web", 2)
        weave.deliver(0)
        weave.lose(1)
        self.assertIsNone(weave.clear_disk("a"))
        for turn in range(2):
            self.assertEqual((weave.journal_text("a"), weave.row_of("a")), ("", []))
            self.assertEqual((weave.view_of("a"), weave.due_of("a")), (None, None))
            self.assertIs(weave.stands("a"), turn == 1)
            weave.rise("a")
        weave.announce()
        weave.ask_again()
        weave.wake("a")
        self.deliver_all(weave)
        self.assertEqual((weave.view_of("a"), weave.journal_text("a"), weave.untold()), (None, "", ["k"]))
        self.assertEqual(weave.full_houses(), ["b", "c"])
        weave.clear_disk("a")
        self.assertEqual((weave.stands("a"), weave.full_houses()), (False, ["b", "c"]))

    def test_what_it_told_of_being_full_does_not_count(self):
        weave = self.weave("ab")
        weave.wake("a")
        weave.take_in("c")
        for letter in weave.letters():
            if letter.receiver in ("b", "c"):
                weave.deliver(letter.number)
        weave.wake("c")
        while not [letter for letter in weave.letters() if letter.sender == "c" and letter.body == ("full",)]:
            weave.deliver([letter for letter in weave.letters() if letter.body[0] in ("have", "entries")][0].number)
        self.assertEqual(weave.full_houses(), ["a", "b"])
        weave.clear_disk("c")
        weave.clear_disk("a")
        self.deliver_all(weave)
        self.assertEqual(weave.full_houses(), ["b"])

    def test_the_only_full_house(self):
        weave = self.weave("ab")
        weave.clear_disk("a")
        self.check_raises(weave, NoView, weave.clear_disk, "b")
        weave.take_in("c")
        self.check_raises(weave, NoView, weave.clear_disk, "b")
        weave.clear_disk("c")
        self.assertEqual(weave.full_houses(), ["b"])
        weave = self.weave("a")
        self.check_raises(weave, NoView, weave.clear_disk, "a")
        self.check_raises(weave, UnknownHouse, weave.clear_disk, "b")

    def test_a_house_that_was_left_out(self):
        weave = self.weave("ab")
        weave.leave_out("b")
        weave.clear_disk("b")
        self.assertEqual((weave.journal_text("b"), weave.full_houses()), ("", ["a"]))
        self.check_raises(weave, NoView, weave.clear_disk, "a")

    def test_told_answers_of_a_house_that_was_cleared_count(self):
        weave = self.weave("ab")
        weave.ask("k", "web", 2)
        weave.deliver(0)
        weave.deliver(1)
        weave.clear_disk("b")
        self.deliver_all(weave)
        self.assertEqual(self.told(weave), {"k": ("k", 0, (), 0)})


class NewViews(WeaveTest):
    def views(self, view):
        return [("", house, view, ("view",)) for house in view[1]]

    def test_leave_out(self):
        for house, left in (("a", ("b", "c")), ("b", ("a", "c")), ("c", ("a", "b"))):
            weave = self.weave()
            self.assertEqual(weave.leave_out(house), (2, left))
            self.assertEqual(weave.present_view(), (2, left))
            self.assertEqual(self.bodies(weave), self.views((2, left)))
            self.assertEqual((weave.full_houses(), weave.houses()), (list(left), ["a", "b", "c"]))
            self.assertEqual(weave.view_of(house), (1, ("a", "b", "c")))
            self.check_raises(weave, UnknownHouse, weave.leave_out, house, attribute=("house", house))

    def test_take_in(self):
        weave = self.weave("ba")
        view = (2, ("b", "a", "c"))
        self.assertEqual(weave.take_in("c"), view)
        self.assertEqual((weave.present_view(), weave.houses()), (view, ["b", "a", "c"]))
        self.assertEqual(self.bodies(weave), self.views(view))
        self.assertEqual((weave.view_of("c"), weave.due_of("c"), weave.row_of("c")), (view, None, []))
        self.assertEqual((weave.journal_text("c"), weave.stands("c")), (first_text(view, None), True))
        self.assertEqual(weave.full_houses(), ["b", "a"])
        weave.settle()
        self.assertEqual((weave.full_houses(), weave.due_of("c")), (["b", "a", "c"], 0))

    def test_the_due_of_a_new_house(self):
        weave = self.weave("a")
        for at in range(3):
            weave.ask(f"k{at}", "web", 1)
        self.deliver_all(weave)
        weave.take_in("b")
        weave.settle()
        self.assertEqual((weave.due_of("b"), len(weave.row_of("b")), weave.full_houses()), (3, 3, ["a", "b"]))
        weave.leave_out("a")
        weave.ask("n", "web", 1)
        weave.settle()
        self.assertEqual((weave.due_of("b"), len(weave.row_of("b")), sorted(weave.told())), (3, 4, ["k0", "k1", "k2", "n"]))

    def test_a_new_house_is_not_full_by_itself(self):
        weave = self.weave("a")
        weave.take_in("b")
        self.check_raises(weave, NoView, weave.leave_out, "a")
        self.check_raises(weave, NoView, weave.clear_disk, "a")
        weave.settle()
        self.assertEqual(weave.leave_out("a"), (3, ("b",)))

    def test_leave_out_what_is_not_there_or_the_last_full_one(self):
        weave = self.weave("a")
        self.check_raises(weave, UnknownHouse, weave.leave_out, "b", attribute=("house", "b"))
        self.check_raises(weave, NoView, weave.leave_out, "a")
        weave = self.weave("ab")
        weave.clear_disk("a")
        self.check_raises(weave, NoView, weave.leave_out, "b")
        self.assertEqual(weave.leave_out("a"), (2, ("b",)))
        self.check_raises(weave, NoView, weave.leave_out, "b")

    def test_a_house_that_has_fallen_stays_full(self):
        weave = self.weave("ab")
        weave.fall("b")
        self.assertEqual(weave.full_houses(), ["a", "b"])
        self.assertEqual(weave.leave_out("a"), (2, ("b",)))

    def test_names_that_were_those_of_houses(self):
        weave = self.weave("ab")
        weave.leave_out("b")
        for name in ("a", "b"):
            self.check_raises(weave, NameTaken, weave.take_in, name, attribute=("name", name))
        for name in ("", "A", "a-b", "thirteenchars"):
            self.check_raises(weave, InvalidName, weave.take_in, name)

    def test_at_most_eight_houses(self):
        weave = self.weave("abcdefgh")
        self.check_raises(weave, NoView, weave.take_in, "i")
        self.check_raises(weave, InvalidName, weave.take_in, "I")
        self.check_raises(weave, NameTaken, weave.take_in, "h", attribute=("name", "h"))
        weave.leave_out("a")
        self.assertEqual(weave.take_in("i"), (3, tuple("bcdefghi")))
        self.check_raises(weave, NameTaken, weave.take_in, "a", attribute=("name", "a"))
        self.check_raises(weave, NoView, weave.take_in, "j")
        self.assertEqual(weave.houses(), list("abcdefghi"))

    def test_announce(self):
        weave = self.weave()
        weave.leave_out("b")
        self.deliver_all(weave)
        weave.fall("c")
        self.assertIsNone(weave.announce())
        self.assertEqual(self.bodies(weave), self.views((2, ("a", "c"))))


class AskingAgain(WeaveTest):
    def test_requests_and_then_releases(self):
        weave = Weave(Book([("all", "window", (), (9, 5))]), ["a", "b"])
        for key in ("z", "y", "x"):
            weave.ask(key, "web", 1)
        weave.settle()
        weave.release("x")
        weave.release("z")
        weave.ask("n", "web", 9)
        weave.ask("m", "mail", 2, house="b")
        for letter in weave.letters():
            weave.lose(letter.number)
        weave.leave_out("a")
        for letter in weave.letters():
            weave.lose(letter.number)
        self.assertIsNone(weave.ask_again())
        self.assertEqual(self.bodies(weave), [
            ("", "b", None, ("ask", "n", "web", 9)), ("", "b", None, ("ask", "m", "mail", 2)),
            ("", "b", None, ("release", "x")), ("", "b", None, ("release", "z")),
        ])
        self.assertEqual((weave.untold(), weave.untold_releases()), (["n", "m"], ["x", "z"]))
        weave.settle()
        self.assertEqual((weave.untold(), weave.untold_releases(), weave.released()), ([], [], ["x", "z"]))
        weave.ask_again()
        self.assertEqual(weave.letters(), [])


class Waking(WeaveTest):
    def test_wake(self):
        weave = self.weave()
        self.assertIsNone(weave.wake("b"))
        view = (1, ("a", "b", "c"))
        self.assertEqual(self.bodies(weave), [("b", "a", view, ("have", 0)), ("b", "", view, ("full",))])
        weave.fall("c")
        weave.wake("c")
        self.assertEqual(len(weave.letters()), 2)
        weave.wake("a")
        self.assertEqual(self.bodies(weave)[2:], [("a", "", view, ("full",))])


class Settling(WeaveTest):
    def test_nothing_to_do(self):
        weave = self.weave()
        self.assertIsNone(weave.settle())
        self.assertEqual((weave.letters(), weave.full_houses(), weave.told()), ([], ["a", "b", "c"], {}))
        # One round: three views, and what three houses send when they are woken, and what comes of that.
        self.assertEqual(weave.ask("k", "web", 1), 3 + 5 + 2)

    def test_all_that_was_lost_comes_again(self):
        weave = self.weave()
        for at in range(6):
            weave.ask(f"k{at}", ("web", "mail")[at % 2], 1 + at % 3)
            weave.tick(1)
            weave.deliver(weave.letters()[0].number)
            weave.lose(weave.letters()[0].number)
        weave.fall("b")
        weave.rise("b")
        weave.settle()
        row = weave.row_of("a")
        self.assertEqual([entry[1] for entry in row], [f"k{at}" for at in range(6)])
        self.assertEqual(weave.row_of("c"), row)
        self.assertEqual(list(self.told(weave).values()), [answer.parts() for answer in answers_for(BOOK, row)])

    def test_a_house_that_was_cleared_makes_no_round(self):
        for is_cleared in (False, True):
            weave = self.weave("a")
            weave.take_in("b")
            while not [letter for letter in weave.letters() if letter.body == ("full",) and letter.sender == "b"]:
                weave.wake("b")
                for letter in weave.letters():
                    if letter.body != ("full",):
                        weave.deliver(letter.number)
            for letter in weave.letters()[:-1]:
                weave.lose(letter.number)
            if is_cleared:
                weave.clear_disk("b")
            last = weave.letters()[-1].number
            weave.settle()
            self.assertEqual(weave.full_houses(), ["a"] if is_cleared else ["a", "b"])
            # In one round: two views, and "full" of a. If b was not cleared, its "have", its "full" and the entries for
            # it, and this round is the second one, because b was told to be full in the first one.
            self.assertEqual(weave.ask("k", "web", 1) - last - 1, 3 if is_cleared else 2 * 6)

    def test_letters_that_are_on_their_way_come_first(self):
        weave = self.weave("a")
        weave.ask("k", "web", 5)
        weave.ask("m", "web", 1)
        weave.settle()
        self.assertEqual([entry[1] for entry in weave.row_of("a")], ["k", "m"])

    def test_a_head_that_has_fallen_answers_nothing(self):
        weave = self.weave()
        weave.fall("a")
        weave.ask("k", "web", 5)
        weave.settle()
        self.assertEqual((weave.untold(), weave.letters(), weave.told()), (["k"], [], {}))
        weave.rise("a")
        weave.settle()
        self.assertEqual(weave.untold(), [])


if __name__ == "__main__":
    unittest.main()
