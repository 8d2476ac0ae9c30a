"""Points 23 to 25: `idle_beside` and `parting_row` against a search over rows, and `check_parting`."""

import itertools
import random
import unittest

import definition
import search
from limitweave.books import check_entries, check_limit
from limitweave.idle import check_parting, idle_beside, parting_row

WORDS = ("window", "span", "bucket", "gap", "held", "pool")
TIMED = ("window", "span", "bucket", "gap")
GROUPS = ("a", "b", "c", "free")
COSTS = (1, 2, 3, 5)


def deeds_of(row):
    return [("let",) + entry[1:] if entry[0] == "ask" else entry for entry in row]


def is_parting(limit, other, row):
    """Points 8 and 23, over the whole row."""
    deeds = deeds_of(row)
    if not row or row[-1][0] != "ask":
        return False
    return definition.keeps(other, deeds) and definition.keeps(limit, deeds[:-1]) and not definition.keeps(limit, deeds)


def small_limits(word, top):
    if word == "gap":
        return [("n", word, (), (ticks,)) for ticks in range(1, top + 2)]
    return [("n", word, (), (most, step)) for most in range(top) for step in range(1, top + 1)]


def drawn_limit(draw, word, top):
    if word == "pool":
        named = sorted(draw.sample(("a", "b", "c"), draw.randint(1, 3)))
        shares = []
        for group in named:
            own = draw.choice((0, 0, 1, 2))
            shares.append((group, own, own + draw.choice((0, 0, 1, 2, 3))))
        most = sum(own for group, own, ceiling in shares) + draw.choice((0, 0, 1, 2))
        return ("n", word, (), (most, tuple(shares)))
    groups = draw.choice(((), ("a",), ("b",), ("a", "b"), ("b", "c"), ("a", "c"), ("a", "b", "c")))
    if word == "held":
        return ("n", word, groups, (draw.randint(0, top),))
    if word == "gap":
        return ("n", word, groups, (draw.randint(1, top),))
    return ("n", word, groups, (draw.randint(0, top), draw.randint(1, top)))


class Parting(unittest.TestCase):
    def check_pair(self, limit, other, is_parted):
        """Both functions tell what is so, and the row that is returned is a parting row."""
        told = (limit, other)
        self.assertIs(idle_beside(limit, other), not is_parted, told)
        row = parting_row(limit, other)
        self.assertEqual(row is not None, is_parted, told)
        if row is not None:
            self.assertIsInstance(row, list)
            self.assertIsNone(check_entries(row), told)
            self.assertIs(check_parting(limit, other, row), True, (limit, other, row))
            if len(row) <= 60:
                self.assertTrue(is_parting(limit, other, row), (limit, other, row))

    def check_by_search(self, limit, other):
        self.check_pair(limit, other, search.is_parted(limit, other, GROUPS, COSTS))


class AgainstASearch(Parting):
    def test_all_small_numbers_of_limits_that_make_room_in_time(self):
        for first, second in itertools.product(TIMED, repeat=2):
            for limit, other in itertools.product(small_limits(first, 4), small_limits(second, 4)):
                self.check_pair(limit, other, search.is_parted(limit, other, ("a",), (1, 2, 3, 4)))

    def test_drawn_limits_with_groups(self):
        draw = random.Random(25)
        for first, second in itertools.product(WORDS, repeat=2):
            for _ in range(90):
                self.check_by_search(drawn_limit(draw, first, 4), drawn_limit(draw, second, 4))

    def test_spans_and_windows_with_greater_numbers(self):
        draw = random.Random(24)
        for first, second in itertools.product(("window", "span", "bucket"), repeat=2):
            for _ in range(60):
                limit = ("n", first, (), (draw.randint(1, 9), draw.randint(2, 11)))
                other = ("n", second, (), (draw.randint(1, 3), draw.randint(2, 9)))
                self.check_pair(limit, other, search.is_parted(limit, other, ("a",), (1, 2)))

    def test_pools_against_all_uses(self):
        draw = random.Random(26)
        for _ in range(700):
            groups = ("a", "b", "c")[:draw.randint(1, 3)]
            limit, other = self.drawn_pool(draw, groups), self.drawn_pool(draw, ("a", "b", "c"))
            if draw.random() < 0.2:
                limit = ("n", "held", groups, (draw.randint(0, 9),))
            elif draw.random() < 0.2:
                other = ("n", "held", (), (draw.randint(0, 9),))
            self.check_pair(limit, other, self.uses_part(limit, other, groups))

    def drawn_pool(self, draw, groups):
        shares = []
        for group in groups:
            own = draw.randint(0, 3)
            shares.append((group, own, own + draw.randint(0, 3)))
        return ("n", "pool", (), (sum(share[1] for share in shares) + draw.randint(0, 5), tuple(shares)))

    def uses_part(self, limit, other, groups):
        for uses in itertools.product(range(10), repeat=len(groups)):
            held = {str(at): (group, use) for at, (group, use) in enumerate(zip(groups, uses))}
            if definition.holding_fits(other, held) and not definition.holding_fits(limit, held):
                return True
        return False


def beside(first, second):
    return idle_beside(("one",) + first, ("two",) + second)


class Groups(Parting):
    def test_groups_of_limits_with_equal_numbers(self):
        for word, numbers in (
            ("window", (3, 2)), ("span", (3, 2)), ("bucket", (3, 2)), ("gap", (2,)), ("held", (3,)),
        ):
            for groups, others, expected in (
                ((), (), True), (("a",), (), True), (("a",), ("a",), True), (("a",), ("a", "b"), True),
                ((), ("a",), False), (("a", "b"), ("a",), False), (("a",), ("b",), False), (("a", "c"), ("a", "b"), False),
                ((), ("a", "b", "c", "d", "e", "f", "g", "h"), False),
            ):
                self.check_pair(("one", word, groups, numbers), ("two", word, others, numbers), not expected)

    def test_a_limit_for_all_groups_finds_a_group_of_its_own(self):
        taken = tuple(f"g{number}" for number in range(8))
        for word, numbers in (("window", (5, 9)), ("gap", (4,)), ("held", (0,))):
            self.check_pair(("n", word, (), numbers), ("n", "window", taken, (0, 1)), True)

    def test_what_lets_in_nothing(self):
        nothing = (
            ("window", (), (0, 3)), ("span", (), (0, 3)), ("bucket", (), (0, 3)), ("held", (), (0,)),
            ("pool", (), (0, (("a", 0, 5), ("b", 0, 5)))), ("pool", (), (7, (("a", 0, 0), ("b", 0, 0)))),
        )
        for other in nothing:
            for word, numbers in (
                ("window", (2, 3)), ("span", (2, 3)), ("bucket", (2, 3)), ("gap", (3,)), ("held", (2,)), ("window", (0, 1)),
            ):
                self.assertIs(beside((word, ("a", "b"), numbers), other), True)
                self.assertIsNone(parting_row(("n", word, ("a",), numbers), ("n",) + other))
                if other[0] == "pool":
                    self.check_pair(("n", word, ("a", "c"), numbers), ("n",) + other, True)
            self.assertIs(beside(("pool", (), (1, (("a", 1, 1),))), other), True)
            self.check_pair(("n",) + other, ("n", "held", (), (1,)), True)

    def test_pools_with_other_groups(self):
        pool = ("n", "pool", (), (4, (("a", 2, 3), ("b", 0, 9))))
        self.check_pair(pool, ("n", "pool", (), (0, (("a", 0, 0),))), True)
        self.check_pair(pool, ("n", "pool", (), (0, (("a", 0, 0), ("b", 0, 0), ("c", 0, 1)))), False)
        self.check_pair(pool, ("n", "held", ("a",), (0,)), True)
        self.check_pair(pool, ("n", "held", ("a", "b"), (2,)), False)
        self.check_pair(pool, ("n", "held", ("a", "b"), (3,)), True)
        self.check_pair(("n", "held", ("a",), (3,)), pool, False)
        self.check_pair(("n", "held", ("a",), (2,)), pool, True)
        self.check_pair(("n", "held", ("a", "b"), (4,)), pool, False)
        self.check_pair(("n", "held", ("a", "b"), (3,)), pool, True)
        self.check_pair(("n", "held", (), (9,)), pool, True)
        self.check_pair(("n", "window", ("a",), (1, 1)), ("n", "pool", (), (1, (("a", 0, 0), ("b", 0, 1)))), False)

    def test_a_group_must_be_chosen_for_the_common_part_to_be_exceeded(self):
        limit = ("n", "pool", (), (9, (("a", 1, 6), ("b", 6, 9), ("c", 0, 4))))
        for common in (0, 1, 2, 3, 4, 5):
            shares = (("a", 0, 3), ("b", 0, 9), ("c", 0, 1))
            self.check_pair(limit, ("n", "pool", (), (common, shares)), common >= 4)
            self.assertEqual(search.is_parted(limit, ("n", "pool", (), (common, shares)), GROUPS, (1,)), common >= 4)


class Borders(Parting):
    """Where a limit is just idle and just not; each pair of limits differs in one number."""

    def check_border(self, word, numbers, other, idle_numbers):
        limit, idle = ("one", word, (), numbers), ("one", word, (), idle_numbers)
        self.check_pair(limit, ("two",) + other, True)
        self.check_pair(idle, ("two",) + other, False)

    def test_windows(self):
        window = ("window", (), (5, 10))
        self.check_border("window", (4, 10), window, (5, 10))
        self.check_border("window", (5, 11), window, (5, 10))
        self.check_border("window", (9, 11), window, (10, 11))
        self.check_border("window", (10, 21), window, (10, 20))
        self.check_border("span", (5, 11), window, (5, 10))
        self.check_border("span", (9, 20), window, (10, 20))
        self.check_border("bucket", (5, 3), window, (5, 2))
        self.check_border("bucket", (4, 2), window, (5, 2))
        self.check_border("bucket", (4, 1), window, (5, 1))
        self.check_border("gap", (11,), ("window", (), (1, 10)), (10,))
        self.check_pair(("n", "gap", (), (1,)), ("n", "window", (), (2, 10)), True)

    def test_spans(self):
        span = ("span", (), (5, 10))
        self.check_border("span", (4, 10), span, (5, 10))
        self.check_border("span", (5, 20), span, (10, 20))
        self.check_border("span", (9, 15), span, (10, 15))
        self.check_border("span", (4, 5), span, (5, 5))
        self.check_border("span", (9, 11), span, (10, 11))
        self.check_border("window", (9, 2), span, (10, 2))
        self.check_border("window", (5, 2), span, (5, 1))
        self.check_border("window", (10, 12), span, (10, 11))
        self.check_border("bucket", (8, 1), span, (10, 1))
        self.check_border("bucket", (9, 2), span, (10, 2))
        self.check_border("bucket", (10, 3), span, (10, 2))
        self.check_border("gap", (2,), ("span", (), (1, 10)), (1,))
        self.check_pair(("n", "gap", (), (1,)), ("n", "span", (), (2, 10)), True)

    def test_buckets(self):
        bucket = ("bucket", (), (5, 4))
        self.check_border("bucket", (4, 4), bucket, (5, 4))
        self.check_border("bucket", (5, 5), bucket, (5, 4))
        self.check_border("bucket", (9, 5), bucket, (9, 4))
        self.check_border("window", (7, 13), bucket, (8, 13))
        self.check_border("window", (7, 13), bucket, (7, 12))
        self.check_border("span", (7, 13), bucket, (7, 12))
        self.check_border("gap", (5,), ("bucket", (), (1, 4)), (4,))
        self.check_pair(("n", "gap", (), (1,)), ("n", "bucket", (), (2, 999)), True)

    def test_gaps(self):
        gap = ("gap", (), (4,))
        self.check_border("gap", (5,), gap, (4,))
        self.check_border("window", (999, 4), gap, (1000, 4))
        self.check_border("window", (1000, 5), gap, (1000, 4))
        self.check_border("window", (1999, 5), gap, (2000, 5))
        self.check_border("span", (1000, 5), gap, (1000, 4))
        self.check_border("bucket", (999, 1), ("gap", (), (1000,)), (1000, 1))
        self.check_border("bucket", (1000, 2), ("gap", (), (1999,)), (1000, 1))
        self.check_pair(("n", "bucket", (), (1000, 2)), ("n", "gap", (), (2000,)), False)

    def test_held_limits_and_pools(self):
        held = ("held", (), (5,))
        self.check_border("held", (4,), held, (5,))
        for word, numbers in (("window", (900, 3)), ("span", (900, 3)), ("bucket", (900, 3)), ("gap", (1,))):
            self.check_pair(("n", word, (), numbers), ("n",) + held, True)
            self.check_pair(("n", word, ("a",), numbers), ("n", "pool", (), (1, (("a", 0, 1),))), True)
        for word, numbers in (("window", (1, 60)), ("span", (1, 60)), ("bucket", (1, 60)), ("gap", (60,))):
            self.check_pair(("n", "held", (), (60,)), ("n", word, (), numbers), True)
            self.check_pair(("n", "pool", (), (60, (("a", 60, 60),))), ("n", word, (), numbers), True)

    def test_a_limit_beside_itself(self):
        for limit in (
            ("n", "window", (), (7, 3)), ("n", "span", ("a",), (7, 3)), ("n", "bucket", (), (7, 3)), ("n", "gap", (), (3,)),
            ("n", "held", ("a", "b"), (7,)), ("n", "pool", (), (7, (("a", 3, 5), ("b", 2, 9)))),
            ("n", "window", (), (1000000, 1000000)), ("n", "span", (), (1000000, 999999)),
            ("n", "bucket", (), (1000000, 999999)), ("n", "gap", (), (1000000,)), ("n", "held", (), (1000000,)),
        ):
            self.check_pair(limit, limit, False)
            self.check_pair(limit, ("other",) + limit[1:], False)

    def test_as_in_the_document(self):
        self.assertIs(idle_beside(("w", "window", ("a",), (8, 12)), ("b", "bucket", (), (5, 4))), True)
        self.assertIsNone(parting_row(("g", "gap", ("a",), (3,)), ("w", "window", ("a", "b"), (1, 3))))
        row = [("ask", "x", "a", 1, 5), ("ask", "y", "a", 1, 7)]
        self.assertIs(check_parting(("g", "gap", (), (3,)), ("h", "held", (), (9,)), row), True)


class Arguments(unittest.TestCase):
    def test_rows_are_new_and_limits_are_checked_ones(self):
        limit, other = ("n", "window", (), (3, 2)), ("n", "window", (), (4, 2))
        check_limit(limit)
        first = parting_row(limit, other)
        parting_row(limit, other).clear()
        self.assertEqual(parting_row(limit, other), first)
