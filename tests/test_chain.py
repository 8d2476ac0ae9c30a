"""Views and the places of their houses (point 53)."""

import unittest

from limitweave.chain import ahead_of, behind, first_view, is_head, is_last, with_house, without_house
from limitweave.errors import InvalidName, NameTaken, NoView, UnknownHouse

EIGHT = tuple("abcdefgh")
WRONG_NAMES = ("", "A", "a-b", "a b", "thirteenchars", "a\n")


class FirstView(unittest.TestCase):
    def test_one_to_eight_houses(self):
        for many in range(1, 9):
            houses = list(EIGHT[:many])
            self.assertEqual(first_view(houses), (1, EIGHT[:many]))
            self.assertEqual(houses, list(EIGHT[:many]))
        self.assertEqual(first_view(["z", "a", "m9"]), (1, ("z", "a", "m9")))

    def test_no_houses_and_nine(self):
        for houses in ([], list("abcdefghi")):
            with self.assertRaises(NoView):
                first_view(houses)

    def test_wrong_names(self):
        for name in WRONG_NAMES:
            for houses in ([name], ["a", name], [name, name], ["a", "a", name], list(EIGHT) + [name]):
                with self.assertRaises(InvalidName):
                    first_view(houses)

    def test_the_first_name_that_stands_there_a_second_time(self):
        for houses, name in (
            (["a", "a"], "a"), (["a", "b", "b", "a"], "b"), (["a", "b", "a", "b"], "a"), (["c", "a", "b", "c"], "c"),
            (list(EIGHT) + ["d"], "d"), (list("abcdefghij") + ["j", "a"], "j"), (["x"] * 9, "x"),
        ):
            with self.assertRaises(NameTaken) as caught:
                first_view(houses)
            self.assertEqual(caught.exception.name, name)


class NextViews(unittest.TestCase):
    def test_without_a_house(self):
        for many in range(2, 9):
            for house in EIGHT[:many]:
                view = (many + 5, EIGHT[:many])
                left = tuple(other for other in EIGHT[:many] if other != house)
                self.assertEqual(without_house(view, house), (many + 6, left))
                self.assertEqual(view, (many + 5, EIGHT[:many]))

    def test_without_a_house_that_is_not_there_or_is_the_only_one(self):
        for view, house in (((1, ("a", "b")), "c"), ((1, ("a",)), "b"), ((4, EIGHT), "i"), ((1, ("a",)), "")):
            with self.assertRaises(UnknownHouse) as caught:
                without_house(view, house)
            self.assertEqual(caught.exception.house, house)
        with self.assertRaises(NoView):
            without_house((7, ("a",)), "a")

    def test_with_a_house(self):
        for many in range(1, 8):
            view = (many, EIGHT[:many])
            self.assertEqual(with_house(view, "new"), (many + 1, EIGHT[:many] + ("new",)))
            self.assertEqual(view, (many, EIGHT[:many]))

    def test_with_a_house_that_is_there_or_beside_eight(self):
        for many in range(1, 9):
            for house in EIGHT[:many]:
                with self.assertRaises(NameTaken) as caught:
                    with_house((3, EIGHT[:many]), house)
                self.assertEqual(caught.exception.name, house)
        with self.assertRaises(NoView):
            with_house((3, EIGHT), "new")

    def test_with_a_wrong_name(self):
        for name in WRONG_NAMES:
            for view in ((3, ("a",)), (3, EIGHT)):
                with self.assertRaises(InvalidName):
                    with_house(view, name)


class Places(unittest.TestCase):
    def test_each_place(self):
        for many in range(1, 9):
            view = (2, EIGHT[:many])
            for at, house in enumerate(EIGHT[:many]):
                self.assertEqual(ahead_of(view, house), EIGHT[at - 1] if at > 0 else None)
                self.assertEqual(behind(view, house), EIGHT[at + 1] if at + 1 < many else None)
                self.assertIs(is_head(view, house), at == 0)
                self.assertIs(is_last(view, house), at == many - 1)

    def test_houses_that_are_not_in_the_view(self):
        for view in ((2, ("a",)), (2, ("a", "b")), (9, EIGHT)):
            for house in ("z", "ab", ""):
                self.assertIsNone(ahead_of(view, house))
                self.assertIsNone(behind(view, house))
                self.assertIs(is_head(view, house), False)
                self.assertIs(is_last(view, house), False)


if __name__ == "__main__":
    unittest.main()
