"""Points 21 and 22: the greatest cost within some moments, and rows that reach it."""

import itertools
import unittest

import definition
from limitweave.books import check_entries
from limitweave.errors import TooLarge
from limitweave.meters import meter_for
from limitweave.reach import fullest_row, most_within

COSTS = (1, 2, 3, 999, 1000)
AT_A_MOMENT = [costs for many in (0, 1, 2) for costs in itertools.combinations_with_replacement(COSTS, many)]
SMALL = (
    [("n", word, (), (most, step)) for word in ("window", "span", "bucket") for most in (0, 1, 3) for step in (1, 2, 3, 4)]
    + [("n", "gap", (), (ticks,)) for ticks in (1, 2, 3, 4, 5)]
)
TOP = 1000000
LAST = 1000000000


def greatest_by_search(limit, moments, start):
    """The greatest cost of all rows of requests at so many moments from the start on that keep the limit."""

    def search(deeds, moment):
        if moment == start + moments:
            return sum(deed[3] for deed in deeds)
        found = []
        for costs in AT_A_MOMENT:
            row = deeds + [("let", "k", "a", cost, moment) for cost in costs]
            if not costs or definition.keeps(limit, row):
                found.append(search(row, moment + 1))
        return max(found)

    return search([], start)


def deeds_of(row):
    return [("let",) + entry[1:] for entry in row]


class MostWithin(unittest.TestCase):
    def test_against_a_search_over_all_rows(self):
        for limit in SMALL:
            starts = range(limit[3][1]) if limit[1] == "span" else (0,)
            for moments in (1, 2, 3, 4):
                expected = max(greatest_by_search(limit, moments, start) for start in starts)
                self.assertEqual(most_within(limit, moments), expected, (limit, moments))

    def test_held(self):
        for most, expected in ((0, 0), (1, None), (4, None), (TOP, None)):
            for moments in (1, 11, LAST):
                for groups in ((), ("a",)):
                    self.assertEqual(most_within(("n", "held", groups, (most,)), moments), expected)

    def test_pools(self):
        for most, shares in (
            (0, (("a", 0, 0),)), (0, (("a", 0, 5),)), (5, (("a", 0, 0),)), (5, (("a", 0, 1),)), (1, (("a", 1, 1),)),
            (3, (("a", 3, 3), ("b", 0, 9))), (0, (("a", 0, 5), ("b", 0, 5))), (1, (("a", 0, 0), ("b", 0, 1))),
            (1, (("a", 0, 0), ("b", 0, 0))), (TOP, (("a", 0, TOP),)), (TOP, (("a", TOP, TOP),)),
        ):
            limit = ("n", "pool", (), (most, shares))
            lets_in = any(definition.has_room(limit, [], 0, share[0], 1) for share in shares)
            for moments in (1, 11, LAST):
                self.assertEqual(most_within(limit, moments), None if lets_in else 0, limit)

    def test_what_has_no_greatest_sum(self):
        for limit in (("n", "held", (), (1,)), ("n", "pool", (), (1, (("a", 0, 1),)))):
            row = []
            for number in range(40):
                row += [("let", f"k{number}", "a", 1, 0), ("release", f"k{number}", 0)]
            self.assertTrue(definition.keeps(limit, row))

    def test_numbers_at_their_bounds(self):
        for word, numbers, moments, expected in (
            ("window", (TOP, TOP), 1, TOP), ("window", (TOP, TOP), TOP, TOP), ("window", (TOP, TOP), TOP + 1, 2 * TOP),
            ("window", (TOP, TOP), LAST, 1000 * TOP), ("window", (TOP, 1), LAST, TOP * LAST),
            ("window", (0, 1), LAST, 0), ("window", (1, 999999), LAST, 1001), ("window", (1, 1), LAST, LAST),
            ("span", (TOP, TOP), 1, TOP), ("span", (TOP, TOP), 2, 2 * TOP), ("span", (TOP, TOP), TOP + 1, 2 * TOP),
            ("span", (TOP, TOP), TOP + 2, 3 * TOP), ("span", (1, TOP), LAST, 1001), ("span", (1, 999999), LAST, 1002),
            ("span", (TOP, 1), LAST, TOP * LAST), ("span", (0, TOP), LAST, 0), ("span", (0, 1), 1, 0),
            ("bucket", (TOP, TOP), 1, TOP), ("bucket", (TOP, TOP), TOP, TOP), ("bucket", (TOP, TOP), TOP + 1, TOP + 1),
            ("bucket", (TOP, 1), LAST, TOP + LAST - 1), ("bucket", (1, TOP), LAST, 1000), ("bucket", (0, 1), LAST, 0),
            ("gap", (TOP,), 1, 1000), ("gap", (TOP,), TOP, 1000), ("gap", (TOP,), TOP + 1, 2000),
            ("gap", (TOP,), LAST, TOP), ("gap", (1,), LAST, 1000 * LAST),
        ):
            self.assertEqual(most_within(("n", word, (), numbers), moments), expected, (word, numbers, moments))
            self.assertEqual(most_within(("n", word, ("a", "b"), numbers), moments), expected)

    def test_as_in_the_document(self):
        self.assertEqual(most_within(("s", "span", (), (4, 10)), 11), 8)
        self.assertEqual(most_within(("b", "bucket", (), (3, 5)), 11), 5)
        self.assertEqual(most_within(("g", "gap", (), (5,)), 11), 3000)
        self.assertIsNone(most_within(("h", "held", (), (4,)), 11))


class FullestRow(unittest.TestCase):
    def check_row(self, limit, moments):
        row = fullest_row(limit, moments)
        told = (limit, moments)
        self.assertIsInstance(row, list, told)
        self.assertTrue(all(entry[0] == "ask" and len(entry) == 5 for entry in row), told)
        if row and row[-1][4] <= LAST:
            self.assertIsNone(check_entries(row), told)
        meter = meter_for(limit)
        for _, key, group, cost, moment in row:
            self.assertTrue(1 <= cost <= 1000, told)
            self.assertTrue(definition.looked_at(limit, group), told)
            self.assertTrue(meter.room(moment, group, cost), told)
            meter.let(moment, group, cost, key)
        self.assertEqual(len({entry[1] for entry in row}), len(row), told)
        self.assertEqual(sum(entry[3] for entry in row), most_within(limit, moments), told)
        if row:
            first = row[0][4]
            self.assertTrue(0 <= first < 1000001, told)
            self.assertTrue(all(first <= entry[4] <= first + moments - 1 for entry in row), told)
            self.assertEqual([entry[4] for entry in row], sorted(entry[4] for entry in row), told)
        return row

    def too_large(self, limit, moments):
        with self.assertRaises(TooLarge, msg=(limit, moments)):
            fullest_row(limit, moments)

    def test_small_ones_by_the_definition(self):
        for limit in SMALL:
            for groups in ((), ("b", "c")):
                for moments in range(1, 11):
                    row = self.check_row(limit[:2] + (groups,) + limit[3:], moments)
                    self.assertTrue(definition.keeps(limit, deeds_of(row)), (limit, moments))

    def test_ten_thousand_and_one_more(self):
        for word, numbers, moments in (
            ("window", (10000, 5), 5), ("window", (5000, 5), 10), ("window", (1, 7), 70000), ("window", (1, 1), 10000),
            ("window", (10, 1000000), 1000 * TOP), ("span", (10000, 5), 1), ("span", (5000, 5), 6), ("span", (1, 1), 10000),
            ("bucket", (10000, 5), 5), ("bucket", (9999, 5), 10), ("bucket", (1, 1), 10000), ("bucket", (1, 3), 29998 + 2),
            ("gap", (1,), 10), ("gap", (5,), 50), ("gap", (TOP,), 10 * TOP),
        ):
            limit = ("n", word, (), numbers)
            self.assertEqual(most_within(limit, moments), 10000, (limit, moments))
            self.check_row(limit, moments)
        for word, numbers, moments in (
            ("window", (10001, 5), 5), ("window", (5000, 5), 11), ("window", (1, 1), 10001), ("window", (TOP, TOP), 1),
            ("span", (10001, 5), 1), ("span", (5000, 5), 7), ("span", (1, 1), 10001), ("bucket", (10001, 5), 5),
            ("bucket", (9999, 5), 11), ("bucket", (1, 1), 10001), ("gap", (1,), 11), ("gap", (5,), 51), ("gap", (1,), LAST),
        ):
            self.assertGreater(most_within(("n", word, (), numbers), moments), 10000)
            self.too_large(("n", word, (), numbers), moments)

    def test_without_a_greatest_cost(self):
        self.too_large(("n", "held", (), (1,)), 1)
        self.too_large(("n", "held", ("a",), (TOP,)), LAST)
        self.too_large(("n", "pool", (), (1, (("a", 0, 1),))), 1)

    def test_nothing_is_let_in(self):
        for word, numbers in (
            ("window", (0, 1)), ("span", (0, 1)), ("bucket", (0, 1)), ("held", (0,)), ("pool", (0, (("a", 0, 5),))),
        ):
            for moments in (1, 7, LAST):
                self.assertEqual(fullest_row(("n", word, (), numbers), moments), [])

    def test_great_numbers(self):
        for word, numbers in (
            ("window", (1, TOP)), ("window", (9, 999999)), ("span", (1, TOP)), ("span", (9, 999999)), ("span", (7, 777777)),
            ("bucket", (1, TOP)), ("bucket", (9000, TOP)), ("gap", (TOP,)),
        ):
            for moments in (1, 2, TOP - 1, TOP, TOP + 1, 9 * TOP, 10 * TOP):
                self.check_row(("n", word, (), numbers), moments)
            if word != "gap":
                self.check_row(("n", word, (), numbers), LAST)

    def test_one_group(self):
        for word, numbers in (("window", (3, 2)), ("span", (3, 2)), ("bucket", (3, 2)), ("gap", (2,))):
            self.assertEqual({entry[2] for entry in self.check_row(("n", word, ("only",), numbers), 5)}, {"only"})

    def test_lists_are_new(self):
        limit = ("n", "window", (), (3, 2))
        fullest_row(limit, 4).clear()
        self.assertEqual(len(fullest_row(limit, 4)), 2)
