"""Points 8, 9 and 12: what is a limit, and which error comes first; and what a limit looks at."""

import unittest

from limitweave.books import check_limit, looks_at
from limitweave.errors import InvalidLimit, InvalidName

LIMITS = [
    ("few", "window", (), (5, 10)),
    ("few", "span", ("a",), (5, 10)),
    ("few", "bucket", ("a", "b"), (5, 10)),
    ("few", "gap", (), (3,)),
    ("few", "held", ("mail", "web"), (4,)),
    ("few", "pool", (), (10, (("a", 2, 5), ("b", 0, 9)))),
]
GROUPS = tuple(f"g{place}" for place in range(9))


class Checked(unittest.TestCase):
    def good(self, *limit):
        self.assertIsNone(check_limit(limit))

    def no_name(self, *limit):
        with self.assertRaises(InvalidName, msg=limit):
            check_limit(limit)

    def no_limit(self, *limit):
        with self.assertRaises(InvalidLimit, msg=limit):
            check_limit(limit)


class Rules(Checked):
    def test_good_ones(self):
        for limit in LIMITS:
            self.good(*limit)

    def test_number_of_parts(self):
        for limit in LIMITS:
            for length in range(4):
                self.no_limit(*limit[:length])
            self.no_limit(*limit, 7)

    def test_words(self):
        for word in ("", "Window", "windows", "pool ", "share", "few"):
            self.no_limit("few", word, (), (5, 10))
            self.no_limit("few", word, (), (5,))

    def test_most_and_size(self):
        for word in ("window", "span", "bucket"):
            for most in (0, 1, 999999, 1000000):
                self.good("few", word, (), (most, 10))
            for most in (-1, 1000001):
                self.no_limit("few", word, (), (most, 10))
        for most in (0, 1, 999999, 1000000):
            self.good("few", "held", (), (most,))
        for most in (-1, 1000001):
            self.no_limit("few", "held", (), (most,))

    def test_length_every_and_ticks(self):
        for word in ("window", "span", "bucket"):
            for number in (1, 2, 999999, 1000000):
                self.good("few", word, (), (5, number))
            for number in (0, -1, 1000001):
                self.no_limit("few", word, (), (5, number))
        for ticks in (1, 2, 999999, 1000000):
            self.good("few", "gap", (), (ticks,))
        for ticks in (0, -1, 1000001):
            self.no_limit("few", "gap", (), (ticks,))

    def test_numbers_of_another_form(self):
        for word in ("window", "span", "bucket"):
            for numbers in ((), (5,), (5, 10, 3), (5, (("a", 1, 2),)), ("5", 10), (5, "10")):
                self.no_limit("few", word, (), numbers)
        for word in ("gap", "held"):
            for numbers in ((), (5, 10), ((("a", 1, 2),),), ("5",)):
                self.no_limit("few", word, (), numbers)

    def test_groups(self):
        for word, numbers in (("window", (5, 10)), ("span", (5, 10)), ("bucket", (5, 10)), ("gap", (3,)), ("held", (4,))):
            for many in range(9):
                self.good("few", word, GROUPS[:many], numbers)
            self.no_limit("few", word, GROUPS, numbers)
            self.no_limit("few", word, ("b", "a"), numbers)
            self.no_limit("few", word, ("a", "a"), numbers)
            self.no_limit("few", word, ("a", "b", "b"), numbers)
            self.no_limit("few", word, ("a", "c", "b"), numbers)


class Pools(Checked):
    def pool(self, most, *shares):
        return ("few", "pool", (), (most, shares))

    def test_good_ones(self):
        self.good(*self.pool(0, ("a", 0, 0)))
        self.good(*self.pool(1000000, ("a", 1000000, 1000000)))
        self.good(*self.pool(5, ("a", 5, 5)))
        self.good(*self.pool(5, ("a", 2, 1000000), ("b", 3, 3)))

    def test_most(self):
        for most in (-1, 1000001):
            self.no_limit(*self.pool(most, ("a", 0, 0)))

    def test_own_and_ceiling(self):
        for own, ceiling in ((-1, 5), (6, 5), (0, 1000001), (0, -1)):
            self.no_limit(*self.pool(10, ("a", own, ceiling)))
            self.no_limit(*self.pool(10, ("a", 0, 5), ("b", own, ceiling)))
        self.no_limit(*self.pool(1000000, ("a", 1000001, 1000001)))

    def test_sum_of_own_shares(self):
        self.good(*self.pool(6, ("a", 3, 3), ("b", 2, 2), ("c", 1, 1)))
        self.no_limit(*self.pool(5, ("a", 3, 3), ("b", 2, 2), ("c", 1, 1)))
        self.no_limit(*self.pool(0, ("a", 1, 1)))

    def test_number_of_shares(self):
        shares = tuple((group, 0, 5) for group in GROUPS)
        self.no_limit(*self.pool(10))
        for many in range(1, 9):
            self.good(*self.pool(10, *shares[:many]))
        self.no_limit(*self.pool(10, *shares))

    def test_order_of_shares(self):
        self.no_limit(*self.pool(10, ("b", 0, 5), ("a", 0, 5)))
        self.no_limit(*self.pool(10, ("a", 0, 5), ("a", 0, 5)))
        self.no_limit(*self.pool(10, ("a", 0, 5), ("a", 1, 6)))

    def test_no_groups_beside_the_shares(self):
        self.no_limit("few", "pool", ("a",), (10, (("a", 2, 5),)))

    def test_other_forms(self):
        for numbers in ((), (10,), (10, 5), (10, (("a", 2, 5),), 3), ("10", (("a", 2, 5),))):
            self.no_limit("few", "pool", (), numbers)
        for share in ((), ("a",), ("a", 2), ("a", 2, 5, 7), (2, "a", 5), ("a", "2", 5), ("a", 2, "5"), (1, 2, 5)):
            self.no_limit(*self.pool(10, share))
            self.no_limit(*self.pool(10, ("a", 0, 5), share))


class WhichErrorFirst(Checked):
    def test_names(self):
        for name in ("", "a" * 13, "Few", "few-1", "few ", "few\n"):
            for limit in LIMITS:
                self.no_name(name, *limit[1:])
                if limit[1] != "pool":
                    self.no_name("few", limit[1], (name,), limit[3])
                    self.no_name("few", limit[1], ("a", name), limit[3])
            self.no_name("few", "pool", (), (10, ((name, 2, 5),)))
            self.no_name("few", "pool", (), (10, (("a", 2, 5), (name, 2, 5))))

    def test_four_parts_go_ahead_of_names(self):
        self.no_limit("Few", "window", ())
        self.no_limit("Few", "window", ("A",), (5, 10), ())

    def test_names_go_ahead_of_all_other_rules(self):
        self.no_name("Few", "none", (), (5, 10))
        self.no_name("few", "none", ("A",), (5, 10))
        self.no_name("Few", "window", (), (5,))
        self.no_name("few", "window", ("A",), ())
        self.no_name("Few", "window", (), (-1, 0))
        self.no_name("few", "window", ("b", "A"), (5, 10))
        self.no_name("few", "window", GROUPS + ("A",), (5, 10))
        self.no_name("Few", "pool", ("a",), (10, ()))
        self.no_name("few", "pool", ("A",), (10, (("a", 2, 5),)))
        self.no_name("few", "pool", ("a",), (10, (("A", 2, 5),)))
        self.no_name("few", "pool", (), (0, (("A", 2, 1),)))
        self.no_name("few", "pool", (), (-1, (("b", 2, 5), ("A", 2, 5))))

    def test_shares_are_looked_at_only_in_the_form_of_a_pool(self):
        self.no_limit("few", "none", (), (10, (("A", 2, 5),)))
        self.no_limit("few", "window", (), (10, (("A", 2, 5),)))
        self.no_limit("few", "pool", (), (10, (("A", 2, 5),), 1))
        self.no_limit("few", "pool", (), (10, (("A", 2),)))
        self.no_limit("few", "pool", (), ("10", (("A", 2, 5),)))
        self.no_limit("few", "pool", (), (10, (("A", 2, 5), ("b", 1))))


class LooksAt(unittest.TestCase):
    def test_without_groups(self):
        for word, numbers in (("window", (5, 10)), ("span", (5, 10)), ("bucket", (5, 10)), ("gap", (3,)), ("held", (4,))):
            for group in ("a", "b", "never9"):
                self.assertIs(looks_at(("few", word, (), numbers), group), True)

    def test_with_groups(self):
        for word, numbers in (("window", (5, 10)), ("span", (5, 10)), ("bucket", (5, 10)), ("gap", (3,)), ("held", (4,))):
            limit = ("few", word, ("ab", "c"), numbers)
            found = [group for group in ("a", "ab", "b", "c", "few", word) if looks_at(limit, group)]
            self.assertEqual(found, ["ab", "c"])
            self.assertIs(looks_at(limit, "c"), True)
            self.assertIs(looks_at(limit, "a"), False)

    def test_pool(self):
        limit = ("few", "pool", (), (10, (("ab", 2, 5), ("c", 0, 9))))
        self.assertEqual([looks_at(limit, group) for group in ("ab", "c", "a", "b")], [True, True, False, False])
