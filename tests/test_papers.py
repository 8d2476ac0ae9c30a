"""Points 37 to 40: papers of refusals."""

import itertools
import random
import unittest

import definition
from drawing import draw_book, draw_entries
from limitweave.books import Book
from limitweave.errors import InvalidEntry, InvalidPaper, TooLarge, UnknownKey
from limitweave.papers import check_refusal, refusal_paper
from limitweave.replays import answers_for, deeds_of

HORIZON = 80


def full_at(limit, deeds, request, t, keys):
    """Point 38, word by word."""
    word, numbers = limit[1], limit[3]
    lets = {deed[1]: deed for deed in deeds if deed[0] == "let" and definition.looked_at(limit, deed[2])}
    if len(set(keys)) != len(keys) or any(key not in lets for key in keys):
        return False
    chosen = [lets[key] for key in keys]
    total = sum(deed[3] for deed in chosen) + request[2]
    moments = [deed[4] for deed in chosen]
    if word == "window":
        return all(t - numbers[1] + 1 <= m <= t for m in moments) and total > numbers[0]
    if word == "span":
        return all(m // numbers[1] == t // numbers[1] for m in moments) and total > numbers[0]
    if word == "bucket":
        s = min(moments) if moments else t
        return numbers[1] * total > numbers[0] * numbers[1] + (t - s) and all(m <= t for m in moments)
    if word == "gap":
        return len(keys) > 0 and all(t - m < numbers[0] for m in moments)
    if any(("release", key) == deed[:2] for key in keys for deed in deeds):
        return False
    if word == "held":
        return total > numbers[0]
    use = {name: sum(deed[3] for deed in chosen if deed[2] == name) for name, own, ceiling in numbers[1]}
    use[request[1]] += request[2]
    if any(name == request[1] and use[name] > ceiling for name, own, ceiling in numbers[1]):
        return True
    common = numbers[0] - sum(own for name, own, ceiling in numbers[1])
    return sum(max(0, use[name] - own) for name, own, ceiling in numbers[1]) > common


def full_for_ever(limit, deeds, request, moment, keys):
    if limit[1] in ("held", "pool"):
        return full_at(limit, deeds, request, moment, keys)
    return len(keys) == 0 and limit[1] != "gap" and request[2] > limit[3][0]


def is_shown(book, deeds, request, moment, paper):
    """Point 39."""
    rooms, (earliest, name, keys) = paper
    limits = {limit[0]: limit for limit in book.limits if definition.looked_at(limit, request[1])}
    names = [room[0] for room in rooms]
    if not names or any(later <= earlier for earlier, later in zip(names, names[1:])):
        return False
    for room, used in rooms:
        if room not in limits or not full_at(limits[room], deeds, request, moment, used):
            return False
    if name not in limits:
        return False
    if earliest is None:
        return full_for_ever(limits[name], deeds, request, moment, keys)
    return earliest > moment and full_at(limits[name], deeds, request, earliest - 1, keys)


def is_so(book, deeds, request, moment, paper):
    """Whether what the paper says is so, by the definition of the limits."""
    rooms, (earliest, _, _) = paper
    key, group, cost = request
    for name, _ in rooms:
        if definition.has_room(book.limit_named(name), deeds, moment, group, cost):
            return False
    end = moment + HORIZON if earliest is None else earliest
    for tried in range(moment, end):
        if all(definition.has_room(limit, deeds, tried, group, cost) for limit in book.limits):
            return False
    return True


class Taken(unittest.TestCase):
    def says(self, expected, book, deeds, request, moment, paper):
        before = list(deeds)
        self.assertIs(check_refusal(book, deeds, request, moment, paper), expected, (book.limits, deeds, request, moment, paper))
        self.assertEqual(deeds, before)


class RefusalPaper(Taken):
    def test_drawn_rows(self):
        draw = random.Random(40)
        words, ends = {}, {"later": 0, "never": 0}
        for _ in range(220):
            book, row = draw_book(draw), draw_entries(draw, draw.randint(2, 16))
            before = list(row)
            for number, entry in enumerate(row):
                if entry[0] != "ask":
                    continue
                answer = answers_for(book, row[:number + 1])[-1]
                if answer.is_let:
                    with self.assertRaises(InvalidPaper):
                        refusal_paper(book, row, entry[1])
                    continue
                paper = refusal_paper(book, row, entry[1])
                self.assertIsInstance(paper, tuple)
                rooms, (earliest, name, keys) = paper
                self.assertEqual(tuple(room[0] for room in rooms), answer.lacking)
                self.assertEqual(earliest, answer.earliest)
                deeds = deeds_of(book, row[:number])
                self.says(True, book, deeds, entry[1:4], entry[4], paper)
                self.assertTrue(is_shown(book, deeds, entry[1:4], entry[4], paper))
                for room in answer.lacking:
                    words[book.limit_named(room)[1]] = words.get(book.limit_named(room)[1], 0) + 1
                ends["never" if earliest is None else "later"] += 1
            self.assertEqual(row, before)
        self.assertEqual(len(words), 6)
        self.assertGreater(min(words.values()), 20)
        self.assertGreater(min(ends.values()), 100)

    def test_what_comes_later_makes_no_difference(self):
        book = Book([("h", "held", (), (2,))])
        row = [("ask", "a", "g", 2, 1), ("ask", "b", "g", 1, 1), ("release", "a", 1), ("ask", "c", "g", 1, 2)]
        self.assertEqual(refusal_paper(book, row, "b"), ((("h", ("a",)),), (None, "h", ("a",))))

    def test_papers_by_hand(self):
        book = Book([("b", "bucket", ("g",), (3, 4)), ("w", "window", (), (4, 10))])
        row = [("ask", "a", "g", 3, 5), ("ask", "b", "g", 2, 9), ("ask", "c", "g", 4, 9)]
        self.assertEqual(refusal_paper(book, row, "b"), ((("b", ("a",)), ("w", ("a",))), (15, "w", ("a",))))
        rooms, soonest = refusal_paper(book, row, "c")
        self.assertEqual((tuple(room[0] for room in rooms), soonest), (("b", "w"), (None, "b", ())))

    def test_errors(self):
        book = Book([("h", "held", (), (2,))])
        row = [("ask", "a", "g", 2, 1), ("ask", "b", "g", 1, 1)]
        for key, error in (("a", InvalidPaper), ("c", UnknownKey), ("", UnknownKey)):
            with self.assertRaises(error):
                refusal_paper(book, row, key)
        with self.assertRaises(UnknownKey) as caught:
            refusal_paper(book, [], "c")
        self.assertEqual(caught.exception.key, "c")
        for key in ("a", "b", "c"):
            with self.assertRaises(InvalidEntry) as caught:
                refusal_paper(book, row + [("ask", "c", "g", 0, 1)], key)
            self.assertEqual(caught.exception.number, 2)
            with self.assertRaises(TooLarge):
                refusal_paper(book, [("ask", f"k{number}", "g", 1, 0) for number in range(2001)], key)


def let(key, group, cost, moment):
    return ("let", key, group, cost, moment)


class CheckRefusal(Taken):
    def room(self, expected, limit, deeds, request, moment, keys):
        """Whether the limit is taken to be full at the moment by the keys; with the same keys for what it says of later."""
        book = Book([limit, ("zz", "held", (), (0,))])
        name = limit[0]
        self.assertEqual(full_at(limit, deeds, request, moment, keys), expected)
        never = (None, "zz", ())
        self.says(expected, book, deeds, request, moment, (((name, keys),), never))
        self.says(expected, book, deeds, request, moment, (((name, keys), ("zz", ())), never))
        self.says(expected, book, deeds, request, moment, ((("zz", ()),), (moment + 1, name, keys)))

    def test_windows(self):
        limit = ("n", "window", ("a", "b"), (5, 10))
        deeds = [let("x", "a", 2, 10), let("y", "b", 1, 12), let("c", "c", 9, 12), ("release", "x", 13), let("z", "a", 1, 19)]
        self.room(True, limit, deeds, ("k", "a", 2), 19, ("x", "y", "z"))
        self.room(True, limit, deeds, ("k", "a", 2), 19, ("z", "x", "y"))
        self.room(False, limit, deeds, ("k", "a", 2), 19, ("x", "z"))
        self.room(False, limit, deeds, ("k", "a", 1), 19, ("x", "y", "z"))
        self.room(False, limit, deeds, ("k", "a", 2), 20, ("x", "y", "z"))
        self.room(True, limit, deeds, ("k", "a", 3), 19, ("x", "y"))
        self.room(False, limit, deeds, ("k", "a", 3), 20, ("x", "y"))
        self.room(False, limit, deeds, ("k", "a", 5), 21, ("x",))
        self.room(True, limit, deeds, ("k", "a", 6), 21, ())
        self.room(False, limit, deeds, ("k", "a", 5), 21, ())
        self.room(False, limit, deeds, ("k", "a", 2), 19, ("x", "y", "z", "z"))
        self.room(False, limit, deeds, ("k", "a", 6), 19, ("x", "c"))
        self.room(False, limit, deeds, ("k", "a", 6), 19, ("x", "none"))

    def test_spans(self):
        limit = ("n", "span", (), (5, 10))
        deeds = [let("x", "a", 2, 9), let("y", "b", 2, 10), let("z", "a", 1, 15)]
        self.room(True, limit, deeds, ("k", "a", 3), 15, ("y", "z"))
        self.room(True, limit, deeds, ("k", "a", 3), 19, ("y", "z"))
        self.room(False, limit, deeds, ("k", "a", 2), 19, ("y", "z"))
        self.room(False, limit, deeds, ("k", "a", 3), 20, ("y", "z"))
        self.room(False, limit, deeds, ("k", "a", 4), 15, ("x", "y"))
        self.room(False, limit, deeds, ("k", "a", 4), 15, ("x",))
        self.room(True, limit, deeds, ("k", "a", 6), 15, ())

    def test_buckets(self):
        limit = ("n", "bucket", ("a",), (4, 5))
        deeds = [let("x", "a", 3, 10), let("b", "b", 9, 10), let("y", "a", 1, 12)]
        self.room(True, limit, deeds, ("k", "a", 1), 12, ("x", "y"))
        self.room(True, limit, deeds, ("k", "a", 1), 14, ("x", "y"))
        self.room(False, limit, deeds, ("k", "a", 1), 15, ("x", "y"))
        self.room(False, limit, deeds, ("k", "a", 1), 12, ("x",))
        self.room(False, limit, deeds, ("k", "a", 3), 12, ("y",))
        self.room(True, limit, deeds, ("k", "a", 4), 16, ("y",))
        self.room(False, limit, deeds, ("k", "a", 4), 17, ("y",))
        self.room(True, limit, deeds, ("k", "a", 5), 17, ())
        self.room(False, limit, deeds, ("k", "a", 4), 17, ())
        self.room(False, limit, deeds, ("k", "a", 2), 12, ("x", "b"))

    def test_gaps(self):
        limit = ("n", "gap", ("a",), (5,))
        deeds = [let("w", "a", 1, 3), let("x", "a", 1, 8), let("b", "b", 1, 12)]
        self.room(True, limit, deeds, ("k", "a", 1), 12, ("x",))
        self.room(False, limit, deeds, ("k", "a", 1), 13, ("x",))
        self.room(False, limit, deeds, ("k", "a", 1), 12, ())
        self.room(False, limit, deeds, ("k", "a", 1000), 12, ("b",))
        self.room(False, limit, deeds, ("k", "a", 1), 12, ("w", "x"))
        self.room(False, limit, deeds, ("k", "a", 1), 12, ("x", "x"))

    def test_held(self):
        limit = ("n", "held", ("a",), (5,))
        deeds = [let("x", "a", 2, 3), let("y", "a", 1, 3), let("b", "b", 9, 3), ("release", "y", 4), let("z", "a", 2, 4)]
        self.room(True, limit, deeds, ("k", "a", 2), 4, ("x", "z"))
        self.room(True, limit, deeds, ("k", "a", 2), 4000, ("z", "x"))
        self.room(False, limit, deeds, ("k", "a", 1), 4, ("x", "z"))
        self.room(False, limit, deeds, ("k", "a", 2), 4, ("x",))
        self.room(False, limit, deeds, ("k", "a", 2), 4, ("x", "y", "z"))
        self.room(False, limit, deeds, ("k", "a", 2), 4, ("x", "b"))
        self.room(True, limit, deeds, ("k", "a", 6), 4, ())

    def test_pools(self):
        limit = ("n", "pool", (), (6, (("a", 1, 4), ("b", 2, 9))))
        deeds = [let("x", "a", 2, 3), let("y", "b", 3, 3), let("c", "c", 9, 3), let("z", "b", 1, 4), ("release", "z", 4)]
        self.room(True, limit, deeds, ("k", "a", 3), 4, ("x",))
        self.room(False, limit, deeds, ("k", "a", 2), 4, ("x",))
        self.room(True, limit, deeds, ("k", "a", 2), 4, ("x", "y"))
        self.room(False, limit, deeds, ("k", "a", 1), 4, ("x", "y"))
        self.room(False, limit, deeds, ("k", "b", 2), 4, ("y",))
        self.room(True, limit, deeds, ("k", "b", 2), 4, ("x", "y"))
        self.room(False, limit, deeds, ("k", "b", 2), 4, ("x", "y", "z"))
        self.room(False, limit, deeds, ("k", "b", 2), 4, ("x", "c"))
        self.room(True, limit, deeds, ("k", "a", 5), 4, ())
        self.room(True, limit, deeds, ("k", "b", 6), 4, ())
        self.room(False, limit, deeds, ("k", "b", 5), 4, ())

    def test_names(self):
        book = Book([("h", "held", (), (0,)), ("w", "window", (), (0, 5)), ("x", "held", ("b",), (0,))])
        request, never = ("k", "a", 1), (None, "h", ())
        h, w, x, other = ("h", ()), ("w", ()), ("x", ()), ("other", ())
        for rooms in ((h,), (w,), (h, w)):
            self.says(True, book, [], request, 3, (rooms, never))
        for rooms in ((), (w, h), (h, h), (h, w, w), (x,), (h, x), (other,), (h, other), (h, w, x), (("", ()),)):
            self.says(False, book, [], request, 3, (rooms, never))
        for last in ("w", "h"):
            self.says(True, book, [], request, 3, ((h,), (None, last, ())))
        for last in ("x", "other", ""):
            self.says(False, book, [], request, 3, ((h,), (None, last, ())))
            self.says(False, book, [], request, 3, ((h,), (9, last, ())))

    def test_soonest(self):
        book = Book([("g", "gap", (), (5,)), ("s", "span", (), (9, 10)), ("w", "window", (), (9, 10))])
        deeds = [let("a", "a", 9, 12)]
        rooms = (("g", ("a",)),)
        for earliest, name, keys, expected in (
            (22, "w", ("a",), True), (23, "w", ("a",), False), (14, "w", ("a",), True), (13, "w", ("a",), False),
            (12, "w", ("a",), False), (0, "w", ("a",), False), (20, "s", ("a",), True), (21, "s", ("a",), False),
            (17, "g", ("a",), True), (18, "g", ("a",), False), (22, "w", (), False), (None, "w", (), False),
            (None, "w", ("a",), False), (None, "g", ("a",), False), (None, "g", (), False), (10 ** 12, "w", ("a",), False),
        ):
            paper = (rooms, (earliest, name, keys))
            self.says(expected, book, deeds, ("k", "a", 1), 13, paper)
        for name in ("s", "w"):
            self.says(True, book, deeds, ("k", "a", 10), 13, (rooms, (None, name, ())))
            self.says(False, book, deeds, ("k", "a", 10), 13, (rooms, (None, name, ("a",))))
            self.says(False, book, deeds, ("k", "a", 9), 13, (rooms, (None, name, ())))
        self.says(False, book, deeds, ("k", "a", 1000), 13, (rooms, (None, "g", ())))

    def test_drawn_papers(self):
        draw = random.Random(39)
        taken = 0
        for _ in range(400):
            book, row = draw_book(draw, 3), draw_entries(draw, draw.randint(1, 7))
            deeds = deeds_of(book, row)
            moment = row[-1][-1] + draw.choice((0, 0, 1, 3))
            request = ("new", draw.choice("abc"), draw.choice((1, 3, 9)))
            lets = [deed[1] for deed in deeds if deed[0] == "let"]
            sets = [keys for many in range(len(lets) + 1) for keys in itertools.combinations(lets, many)]
            for _ in range(25):
                rooms = tuple((name, draw.choice(sets)) for name in draw.sample(book.limit_names, draw.choice((1, 1, len(book.limits)))))
                rooms = tuple(sorted(rooms)) if draw.random() < 0.9 else rooms
                earliest = draw.choice((None, moment, moment + 1, moment + 2, moment + 5, moment + 12))
                paper = (rooms, (earliest, draw.choice(book.limit_names), draw.choice(sets + [()])))
                expected = is_shown(book, deeds, request, moment, paper)
                self.says(expected, book, deeds, request, moment, paper)
                if expected:
                    taken += 1
                    self.assertTrue(is_so(book, deeds, request, moment, paper), (book.limits, deeds, request, moment, paper))
        self.assertGreater(taken, 300)
