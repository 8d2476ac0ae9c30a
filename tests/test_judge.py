"""Points 33 to 36: the judge, against the definitions over the deeds up to each one."""

import random
import unittest

import definition
from drawing import draw_book, draw_entries
from limitweave.books import Book
from limitweave.judge import faults, fullest, is_right, keeps, loads, would_break
from limitweave.keeper import Answer
from limitweave.replays import answers_for, deeds_of

LAST = 1000000000


def load_of(limit, deeds):
    """Point 33, for the last one of the deeds."""
    word, numbers = limit[1], limit[3]
    m = deeds[-1][4]
    lets = definition.lets_of(limit, deeds)
    if word == "window":
        return definition.cost_between(lets, m - numbers[1] + 1, m)
    if word == "span":
        return definition.cost_between(lets, m - m % numbers[1], m)
    if word == "bucket":
        return max(numbers[1] * definition.cost_between(lets, s, m) - (m - s) for s, cost in lets)
    if word == "gap":
        return m - max(then for then, cost in lets[:-1]) if lets[:-1] else None
    held = definition.held_after(limit, deeds)
    if word == "held":
        return sum(cost for group, cost in held.values())
    return sum(
        max(0, sum(cost for group, cost in held.values() if group == name) - own) for name, own, ceiling in numbers[1]
    )


def is_broken(limit, deeds):
    """Point 34, for the last one of the deeds."""
    word, numbers, load = limit[1], limit[3], load_of(limit, deeds)
    if word == "gap":
        return load is not None and load < numbers[0]
    if word == "bucket":
        return load > numbers[0] * numbers[1]
    if word != "pool":
        return load > numbers[0]
    group = deeds[-1][2]
    use = sum(cost for name, cost in definition.held_after(limit, deeds).values() if name == group)
    ceiling = [share[2] for share in numbers[1] if share[0] == group][0]
    return load > numbers[0] - sum(share[1] for share in numbers[1]) or use > ceiling


def draw_deeds(draw, many):
    """Deeds that need not keep any limit."""
    deeds, held, moment = [], [], draw.randint(0, 9)
    for number in range(many):
        moment += draw.choice((0, 0, 1, 2, 5))
        if held and draw.random() < 0.3:
            deeds.append(("release", held.pop(draw.randrange(len(held))), moment))
        else:
            held.append(f"k{number}")
            deeds.append(("let", f"k{number}", draw.choice("abc"), draw.choice((1, 2, 3)), moment))
    return deeds


def let(*parts):
    return ("let",) + parts


class Loads(unittest.TestCase):
    def test_drawn_deeds(self):
        draw = random.Random(33)
        for _ in range(250):
            book, deeds = draw_book(draw), draw_deeds(draw, draw.randint(0, 20))
            before = list(deeds)
            wrong = []
            for limit in book.limits:
                seen = [
                    number for number, deed in enumerate(deeds)
                    if deed[0] == "let" and definition.looked_at(limit, deed[2])
                ]
                expected = [(number, load_of(limit, deeds[:number + 1])) for number in seen]
                self.assertEqual(loads(limit, deeds), expected, (limit, deeds))
                wrong += [(number, limit[0]) for number in seen if is_broken(limit, deeds[:number + 1])]
                told = [pair for pair in expected if pair[1] is not None]
                sign = -1 if limit[1] == "gap" else 1
                self.assertEqual(fullest(limit, deeds), max(told, key=lambda pair: (sign * pair[1], -pair[0]), default=None))
            self.assertEqual(faults(book, deeds), sorted(wrong))
            self.assertIs(keeps(book, deeds), not wrong)
            self.assertEqual(deeds, before)

    def test_loads_by_hand(self):
        deeds = [
            let("k0", "a", 2, 8), let("k1", "b", 3, 10), let("k2", "a", 1, 10), ("release", "k1", 11), let("k3", "a", 4, 13),
            let("k4", "c", 9, 14), let("k5", "b", 1, 20),
        ]
        for limit, expected in (
            (("n", "window", (), (9, 5)), [(0, 2), (1, 5), (2, 6), (4, 8), (5, 17), (6, 1)]),
            (("n", "window", ("a", "b"), (9, 6)), [(0, 2), (1, 5), (2, 6), (4, 10), (6, 1)]),
            (("n", "span", (), (9, 10)), [(0, 2), (1, 3), (2, 4), (4, 8), (5, 17), (6, 1)]),
            (("n", "bucket", ("a",), (9, 2)), [(0, 4), (2, 4), (4, 9)]),
            (("n", "gap", ("b",), (9,)), [(1, None), (6, 10)]),
            (("n", "gap", (), (9,)), [(0, None), (1, 2), (2, 0), (4, 3), (5, 1), (6, 6)]),
            (("n", "held", (), (9,)), [(0, 2), (1, 5), (2, 6), (4, 7), (5, 16), (6, 17)]),
            (("n", "pool", (), (9, (("a", 3, 5), ("b", 1, 5)))), [(0, 0), (1, 2), (2, 2), (4, 4), (6, 4)]),
        ):
            self.assertEqual(loads(limit, deeds), expected, limit)
        self.assertEqual(fullest(("n", "gap", (), (9,)), deeds), (2, 0))
        self.assertEqual(fullest(("n", "gap", ("b",), (9,)), deeds), (6, 10))
        self.assertIsNone(fullest(("n", "gap", ("c",), (9,)), deeds))
        self.assertEqual(fullest(("n", "bucket", ("a",), (9, 2)), deeds), (4, 9))
        self.assertEqual(fullest(("n", "pool", (), (9, (("a", 3, 5), ("b", 1, 5)))), deeds), (4, 4))

    def test_the_empty_list(self):
        for limit in draw_book(random.Random(1)).limits:
            self.assertEqual(loads(limit, []), [])
            self.assertIsNone(fullest(limit, []))
        book = Book([("n", "held", (), (0,))])
        self.assertEqual(faults(book, []), [])
        self.assertIs(keeps(book, []), True)
        self.assertEqual(would_break(book, [], ("k", "a", 1), 0), ["n"])

    def test_just_at_the_bound_and_one_above(self):
        for limit, deeds in (
            (("n", "window", (), (5, 3)), [let("k0", "a", 3, 7), let("k1", "a", 2, 9)]),
            (("n", "window", ("a",), (5, 3)), [let("k0", "a", 3, 7), let("k1", "b", 9, 9), let("k2", "a", 2, 9)]),
            (("n", "span", (), (5, 10)), [let("k0", "a", 3, 10), let("k1", "a", 2, 19)]),
            (("n", "bucket", (), (4, 3)), [let("k0", "a", 4, 10), let("k1", "a", 1, 13)]),
            (("n", "held", (), (5,)), [let("k0", "a", 3, 0), let("k1", "b", 2, 50)]),
            (("n", "pool", (), (5, (("a", 2, 9), ("b", 1, 9)))), [let("k0", "b", 2, 0), let("k1", "a", 3, 5)]),
            (("n", "pool", (), (9, (("a", 2, 5), ("b", 1, 9)))), [let("k0", "a", 2, 0), let("k1", "a", 3, 5)]),
        ):
            book = Book([limit])
            self.assertEqual(faults(book, deeds), [])
            last = deeds[-1]
            more = deeds[:-1] + [let(last[1], last[2], last[3] + 1, last[4])]
            self.assertEqual(faults(book, more), [(len(deeds) - 1, "n")], limit)
            self.assertIs(keeps(book, more), False)
            self.assertEqual(would_break(book, deeds[:-1], last[1:4], last[4]), [])
            self.assertEqual(would_break(book, more[:-1], more[-1][1:4], last[4]), ["n"])
        book = Book([("n", "gap", (), (4,))])
        self.assertEqual(faults(book, [let("k0", "a", 1, 3), let("k1", "a", 1, 7)]), [])
        self.assertEqual(faults(book, [let("k0", "a", 1, 3), let("k1", "b", 1, 6), let("k2", "b", 1, 6)]), [(1, "n"), (2, "n")])

    def test_releases_between(self):
        book = Book([("h", "held", (), (3,)), ("p", "pool", (), (2, (("a", 0, 2),)))])
        deeds = [let("k0", "a", 2, 1), ("release", "k0", 1), let("k1", "a", 2, 1), let("k2", "b", 1, 1)]
        self.assertEqual(faults(book, deeds), [])
        self.assertEqual(faults(book, deeds[:1] + deeds[2:]), [(1, "h"), (1, "p"), (2, "h")])

    def test_order_of_faults(self):
        book = Book([("b", "held", (), (1,)), ("a", "window", (), (1, 9)), ("c", "gap", (), (2,))])
        deeds = [let("k0", "a", 2, 1), let("k1", "a", 1, 1)]
        self.assertEqual(faults(book, deeds), [(0, "a"), (0, "b"), (1, "a"), (1, "b"), (1, "c")])

    def test_many_deeds_and_great_numbers(self):
        deeds = [let(f"k{number}", "a", 1000, LAST - 2000 + number) for number in range(2000)]
        self.assertEqual(loads(("n", "window", (), (1, 1000000)), deeds)[-1], (1999, 2000000))
        self.assertEqual(loads(("n", "bucket", (), (1, 1000000)), deeds)[-1], (1999, 2000000 * 1000000 - 1999))
        self.assertEqual(fullest(("n", "held", (), (1,)), deeds), (1999, 2000000))

    def test_lists_are_new(self):
        limit, deeds = ("n", "held", (), (1,)), [let("k0", "a", 2, 1)]
        book = Book([limit])
        loads(limit, deeds).clear()
        faults(book, deeds).clear()
        would_break(book, deeds, ("k", "a", 1), 1).clear()
        self.assertEqual((loads(limit, deeds), faults(book, deeds)), ([(0, 2)], [(0, "n")]))
        self.assertEqual(would_break(book, deeds, ("k", "a", 1), 1), ["n"])


class WouldBreak(unittest.TestCase):
    def test_drawn_deeds(self):
        draw = random.Random(35)
        for _ in range(200):
            book, deeds = draw_book(draw), draw_deeds(draw, draw.randint(0, 14))
            before = list(deeds)
            moment = (deeds[-1][-1] if deeds else 0) + draw.choice((0, 1, 4))
            request = ("new", draw.choice("abc"), draw.choice((1, 3, 9)))
            more = deeds + [("let",) + request + (moment,)]
            expected = [
                limit[0] for limit in book.limits
                if definition.looked_at(limit, request[1]) and is_broken(limit, more)
            ]
            self.assertEqual(would_break(book, deeds, request, moment), expected)
            self.assertEqual(deeds, before)

    def test_a_limit_that_does_not_look_at_the_request(self):
        book = Book([("h", "held", ("a",), (0,)), ("p", "pool", (), (0, (("b", 0, 0),)))])
        self.assertEqual(would_break(book, [let("k", "a", 5, 3)], ("new", "c", 1000), 3), [])
        self.assertEqual(would_break(book, [let("k", "a", 5, 3)], ("new", "b", 1), 3), ["p"])


class Right(unittest.TestCase):
    def wrong_parts(self, parts, names):
        key, moment, lacking, earliest = parts
        yield ("other", moment, lacking, earliest)
        yield (key, moment, lacking[1:] if lacking else (names[0],), earliest)
        yield (key, moment, lacking[:-1] if lacking else tuple(names), earliest)
        spare = [name for name in names if name not in lacking]
        if spare:
            yield (key, moment, tuple(sorted(lacking + (spare[0],))), earliest)
        yield (key, moment, lacking + ("nothere",), earliest)
        if len(lacking) > 1:
            yield (key, moment, lacking[::-1], earliest)
            yield (key, moment, lacking + lacking[-1:], earliest)
        if earliest is None:
            for other in (0, moment, moment + 1, moment + 10 ** 7, 10 ** 14):
                yield (key, moment, lacking, other)
        else:
            for other in (earliest + 1, earliest - 1, earliest + 10 ** 6, None):
                yield (key, moment, lacking, other)
            if earliest > moment:
                yield (key, moment, lacking, moment)

    def test_drawn_rows(self):
        draw = random.Random(36)
        seen = {"let": 0, "later": 0, "never": 0}
        for _ in range(120):
            book, row = draw_book(draw), draw_entries(draw, draw.randint(1, 12))
            entry = [entry for entry in row if entry[0] == "ask"][-1]
            ahead = row[:row.index(entry)]
            deeds = deeds_of(book, ahead)
            parts = answers_for(book, ahead + [entry])[-1].parts()
            self.assertIs(is_right(book, deeds, entry[1:4], Answer(*parts)), True)
            seen["let" if not parts[2] else "never" if parts[3] is None else "later"] += 1
            for wrong in self.wrong_parts(parts, book.limit_names):
                self.assertIs(is_right(book, deeds, entry[1:4], Answer(*wrong)), False, (book.limits, deeds, parts, wrong))
        self.assertGreater(min(seen.values()), 5)

    def test_another_moment(self):
        book = Book([("w", "window", (), (3, 10))])
        deeds = [let("k0", "a", 3, 4)]
        for moment in (4, 9, 13):
            self.assertIs(is_right(book, deeds, ("k", "a", 1), Answer("k", moment, ("w",), 14)), True)
        self.assertIs(is_right(book, deeds, ("k", "a", 1), Answer("k", 14, ("w",), 14)), False)
        self.assertIs(is_right(book, deeds, ("k", "a", 1), Answer("k", 14, (), 14)), True)
        self.assertIs(is_right(book, deeds, ("k", "a", 1), Answer("k", 13, (), 13)), False)
        self.assertIs(is_right(book, deeds, ("k", "a", 4), Answer("k", 14, ("w",), None)), True)

    def test_great_numbers(self):
        limits = [("b", "bucket", (), (1000000, 1000000)), ("w", "window", (), (1000000, 1000000))]
        book = Book(limits)
        deeds = [let(f"k{number}", "a", 1000, LAST) for number in range(1000)]
        answer = Answer("k", LAST, ("b", "w"), LAST + 1000000)
        self.assertIs(is_right(book, deeds, ("k", "a", 1), answer), True)
        self.assertIs(is_right(book, deeds, ("k", "a", 1), Answer("k", LAST, ("b", "w"), None)), False)
        answer = Answer("k", LAST, ("b", "w"), 2 * LAST)
        self.assertIs(is_right(book, deeds, ("k", "a", 1000), answer), True)
        self.assertIs(is_right(book, deeds, ("k", "a", 1000), Answer("k", LAST, ("b", "w"), 2 * LAST - 1)), False)

    def test_deeds_that_keep_nothing(self):
        book = Book([("b", "bucket", (), (1, 1000000))])
        deeds = [let(f"k{number}", "a", 1000, 5) for number in range(2000)]
        soonest = 5 + 2000000 * 1000000
        self.assertIs(is_right(book, deeds, ("k", "a", 1), Answer("k", 5, ("b",), soonest)), True)
        self.assertIs(is_right(book, deeds, ("k", "a", 1), Answer("k", 5, ("b",), soonest - 1)), False)
        self.assertIs(is_right(book, deeds, ("k", "a", 1), Answer("k", 5, ("b",), None)), False)
        self.assertIs(is_right(book, deeds, ("k", "a", 2), Answer("k", 5, ("b",), None)), True)
