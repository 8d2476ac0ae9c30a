"""Points 8, 10 and 17 to 20: each meter against the definition of its limit over many rows, and its further promises."""

import random
import unittest

import definition
from limitweave.limits import BucketMeter, GapMeter, HeldMeter, SpanMeter, WindowMeter
from limitweave.meters import meter_for, meter_from
from limitweave.pools import PoolMeter

CLASSES = {
    "window": WindowMeter, "span": SpanMeter, "bucket": BucketMeter, "gap": GapMeter, "held": HeldMeter,
    "pool": PoolMeter,
}
TIMED = [
    ("n", "window", (), (5, 4)), ("n", "window", ("a",), (3, 1)), ("n", "window", ("a", "c"), (2, 7)),
    ("n", "window", (), (0, 5)), ("n", "window", (), (1, 3)), ("n", "window", (), (9, 8)),
    ("n", "span", (), (5, 4)), ("n", "span", ("a",), (3, 1)), ("n", "span", ("b", "c"), (2, 7)),
    ("n", "span", (), (0, 5)), ("n", "span", (), (1, 3)), ("n", "span", (), (9, 8)),
    ("n", "bucket", (), (5, 4)), ("n", "bucket", ("a",), (3, 1)), ("n", "bucket", ("a", "b"), (2, 7)),
    ("n", "bucket", (), (0, 5)), ("n", "bucket", (), (1, 3)), ("n", "bucket", (), (9, 2)),
    ("n", "gap", (), (1,)), ("n", "gap", (), (4,)), ("n", "gap", ("a",), (7,)),
]
HOLDING = [
    ("n", "held", (), (5,)), ("n", "held", ("a", "c"), (3,)), ("n", "held", (), (0,)), ("n", "held", (), (1,)),
    ("n", "pool", (), (6, (("a", 2, 4), ("b", 1, 6), ("c", 0, 2)))),
    ("n", "pool", (), (3, (("a", 3, 3),))),
    ("n", "pool", (), (3, (("a", 0, 2), ("b", 3, 9)))),
    ("n", "pool", (), (0, (("a", 0, 5),))),
    ("n", "pool", (), (4, (("b", 0, 0), ("c", 1, 3)))),
    ("n", "pool", (), (8, tuple((group, 1, 1) for group in "abcdefgh"))),
    ("n", "pool", (), (9, tuple((group, 1, 2) for group in "abcdefgh"))),
]
LIMITS = TIMED + HOLDING
GROUPS = ("a", "b", "c")
# None of these limits reckons with what lies further back.
HORIZON = 22


def step_of(limit):
    """The number of moments by which the limit reckons."""
    return limit[3][-1] if limit in TIMED else 3


def most_of(limit):
    return 2 if limit[1] == "gap" else limit[3][0]


class Course:
    """A meter and the row of deeds that it was told."""

    def __init__(self, limit, moment):
        self.limit, self.moment = limit, moment
        self.meter = meter_for(limit)
        self.deeds, self.keys = [], []

    def ask(self, group, cost):
        """Tell the meter of the request if the definition has room for it."""
        if not definition.has_room(self.limit, self.deeds, self.moment, group, cost):
            return False
        key = f"k{(len(self.keys) * 7) % 10}-{len(self.keys)}"
        self.keys.append(key)
        self.deeds.append(("let", key, group, cost, self.moment))
        self.meter.let(self.moment, group, cost, key)
        return True

    def release(self, key):
        kept = key in definition.held_after(self.limit, self.deeds) and self.limit[1] in ("held", "pool")
        self.deeds.append(("release", key, self.moment))
        return self.meter.released(key, self.moment), kept

    def greatest_cost(self, group):
        """The greatest cost for which there is room, 0 if there is none."""
        costs = range(1, most_of(self.limit) + 2)
        fitting = [cost for cost in costs
                   if definition.has_room(self.limit, self.deeds, self.moment, group, cost)]
        return max(fitting, default=0)

    def go_on(self, dice):
        """One step: some moments pass, and something is asked or released."""
        step = step_of(self.limit)
        self.moment += dice.choice((0, 0, 0, 1, 1, 1, 2, step - 1, step, step + 1))
        if self.keys and dice.randrange(3) == 0:
            return self.release(dice.choice(self.keys + ["unknown"]))
        group = dice.choice(GROUPS)
        cost = dice.choice((1, 1, 1, 2, 3, self.greatest_cost(group), self.greatest_cost(group) + 1))
        return self.ask(group, max(1, cost))


def rows(limit, many, steps, start=0):
    """Many rows of a limit, each told step by step to a meter."""
    dice = random.Random(f"{limit}")
    for number in range(many):
        course = Course(limit, start)
        for _ in range(steps):
            course.go_on(dice)
            yield course, dice


class AgainstTheDefinition(unittest.TestCase):
    def check_answers(self, course, moment, group, cost):
        limit, meter = course.limit, course.meter
        room = definition.has_room(limit, course.deeds, moment, group, cost)
        soonest = definition.earliest(limit, course.deeds, moment, group, cost, HORIZON)
        told = (limit, course.deeds, moment, group, cost)
        for _ in range(2):
            self.assertIs(meter.room(moment, group, cost), room, told)
            self.assertEqual(meter.earliest(moment, group, cost), soonest, told)

    def test_room_and_earliest(self):
        for limit in LIMITS:
            for course, dice in rows(limit, 40, 8):
                group = dice.choice(GROUPS)
                fitting = course.greatest_cost(group)
                for cost in sorted({1, max(1, fitting), fitting + 1, most_of(limit) + 1}):
                    self.check_answers(course, course.moment, group, cost)

    def test_at_later_moments_than_the_last_call(self):
        for limit in LIMITS:
            step = step_of(limit)
            for course, dice in rows(limit, 12, 6):
                group = dice.choice(GROUPS)
                for later in (1, step - 1, step, step + 1, 3 * step):
                    self.check_answers(course, course.moment + later, group, 1)
                    self.check_answers(course, course.moment + later, group, 2)

    def test_what_has_room_once_keeps_it(self):
        for limit in LIMITS:
            for course, dice in rows(limit, 10, 6):
                group, cost = dice.choice(GROUPS), dice.choice((1, 2, 3))
                soonest = course.meter.earliest(course.moment, group, cost)
                for moment in range(course.moment, course.moment + 30):
                    self.assertIs(course.meter.room(moment, group, cost), soonest is not None and moment >= soonest)

    def test_states(self):
        for limit in LIMITS:
            step = step_of(limit)
            for course, _ in rows(limit, 25, 8):
                for later in (0, 1, step - 1, step, step + 1, 3 * step, 50):
                    moment = course.moment + later
                    expected = definition.state(limit, course.deeds, moment)
                    self.assertEqual(course.meter.state_of(moment), expected, (limit, course.deeds, moment))
                    self.assertEqual(course.meter.state_of(moment), expected)

    def test_released(self):
        for limit in LIMITS:
            dice = random.Random(f"released {limit}")
            for _ in range(30):
                course = Course(limit, 0)
                for _ in range(10):
                    told = course.go_on(dice)
                    if isinstance(told, tuple):
                        self.assertIs(told[0], told[1], (limit, course.deeds))


class OtherMeters(unittest.TestCase):
    """Point 20, meter_from and twin."""

    def same_course(self, first, second, course, dice):
        """Both meters are told the same from here on, and answer the same."""
        for _ in range(6):
            before = len(course.deeds)
            course.go_on(dice)
            for meter in (first, second):
                for deed in course.deeds[before:]:
                    if deed[0] == "let":
                        meter.let(deed[4], deed[2], deed[3], deed[1])
            if course.deeds[before:] and course.deeds[-1][0] == "release":
                key, moment = course.deeds[-1][1:]
                self.assertIs(first.released(key, moment), second.released(key, moment))
            for group in GROUPS:
                for cost in (1, 2, 3, 1000):
                    asked = (course.moment, group, cost)
                    self.assertIs(first.room(*asked), second.room(*asked), (course.limit, course.deeds, asked))
                    self.assertEqual(first.earliest(*asked), second.earliest(*asked), (course.limit, asked))
                    self.assertIs(first.room(*asked), course.meter.room(*asked))
            self.assertEqual(first.state_of(course.moment), course.meter.state_of(course.moment))
            self.assertEqual(second.state_of(course.moment), course.meter.state_of(course.moment))

    def test_from_a_state_and_twins(self):
        for limit in LIMITS:
            dice = random.Random(f"twins {limit}")
            for steps in range(16):
                course = Course(limit, 0)
                for _ in range(steps):
                    course.go_on(dice)
                course.moment += dice.choice((0, 1, step_of(limit)))
                state = course.meter.state_of(course.moment)
                made = meter_from(limit, state, course.moment)
                self.assertIs(type(made), CLASSES[limit[1]])
                self.assertEqual(made.limit, limit)
                self.assertEqual(made.state_of(course.moment), state)
                twin = course.meter.twin()
                self.assertIs(type(twin), CLASSES[limit[1]])
                self.assertEqual(twin.limit, limit)
                self.same_course(made, twin, course, dice)

    def answers(self, course):
        """What calls of room and released can tell of a meter, each on a twin."""
        meter, moment, limit = course.meter, course.moment, course.limit
        group = (limit[2] or GROUPS)[0]
        costs = range(1, most_of(limit) + 1)
        told = [meter.room(later, group, cost) for later in range(moment, moment + HORIZON) for cost in costs]
        for key in sorted(f"k{(number * 7) % 10}-{number}" for number in range(8)):
            told.append(meter.twin().released(key, moment))
            alone = meter.twin()
            for other in course.keys:
                if other != key:
                    alone.released(other, moment)
            told.extend([alone.room(moment, group, cost) for cost in costs])
        return tuple(told)

    def test_different_states_are_told_apart(self):
        for limit in TIMED + [limit for limit in HOLDING if limit[1] == "held"]:
            states = {}
            for course, _ in rows(limit, 40, 7):
                state = course.meter.state_of(course.moment)
                told = (course.moment, self.answers(course))
                self.assertEqual(states.setdefault(told, state), state, (limit, told))

    def test_a_twin_goes_on_by_itself(self):
        for limit in LIMITS:
            for course, dice in rows(limit, 6, 6):
                meter, state = course.meter, course.meter.state_of(course.moment)
                other = meter.twin()
                group = limit[3][1][-1][0] if limit[1] == "pool" else (limit[2] or GROUPS)[0]
                if other.room(course.moment, group, 1):
                    other.let(course.moment, group, 1, "other")
                    self.assertNotEqual(other.state_of(course.moment), state)
                for key in course.keys:
                    other.released(key, course.moment)
                self.assertEqual(meter.state_of(course.moment), state, limit)
                third = meter.twin()
                kept = third.state_of(course.moment)
                for key in course.keys:
                    meter.released(key, course.moment)
                if meter.room(course.moment, group, 1):
                    meter.let(course.moment, group, 1, "mine")
                self.assertEqual(third.state_of(course.moment), kept, limit)

    def test_meter_for(self):
        for limit in LIMITS:
            meter = meter_for(limit)
            self.assertIs(type(meter), CLASSES[limit[1]])
            self.assertEqual(meter.limit, limit)
            self.assertEqual(meter.state_of(0), ())
            self.assertIs(type(CLASSES[limit[1]](limit)), CLASSES[limit[1]])

    def test_methods_without_a_result(self):
        for limit in LIMITS:
            meter = meter_for(limit)
            group = limit[3][1][-1][0] if limit[1] == "pool" else (limit[2] or GROUPS)[0]
            if meter.room(0, group, 1):
                self.assertIsNone(meter.let(0, group, 1, "k"))
            self.assertIsNone(meter.let(0, "unseen", 1, "j"))


class NotLookedAt(unittest.TestCase):
    def test_room_at_each_cost_and_no_change(self):
        for limit in LIMITS:
            if limit[2] == () and limit[1] != "pool":
                continue
            for course, _ in rows(limit, 6, 6):
                state = course.meter.state_of(course.moment)
                for cost in (1, 2, 999, 1000):
                    self.assertIs(course.meter.room(course.moment, "other", cost), True)
                    self.assertEqual(course.meter.earliest(course.moment, "other", cost), course.moment)
                course.meter.let(course.moment, "other", 1000, "not-seen")
                self.assertEqual(course.meter.state_of(course.moment), state)
                self.assertIs(course.meter.released("not-seen", course.moment), False)
                self.assertEqual(course.meter.state_of(course.moment), state)
                self.assertEqual(course.meter.state_of(course.moment + 2),
                                 definition.state(limit, course.deeds, course.moment + 2))

    def test_costs_of_other_groups_do_not_count(self):
        for word, numbers in (("window", (2, 10)), ("span", (2, 10)), ("bucket", (2, 10)), ("held", (2,))):
            meter = meter_for(("n", word, ("a", "c"), numbers))
            meter.let(5, "b", 1000, "k1")
            meter.let(5, "a", 1, "k2")
            self.assertEqual([meter.room(5, group, 2) for group in "abc"], [False, True, False])
            self.assertEqual([meter.room(5, group, 1) for group in "abc"], [True, True, True])
        meter = meter_for(("n", "gap", ("a",), (10,)))
        meter.let(5, "b", 1, "k1")
        self.assertIs(meter.room(5, "a", 1), True)
        meter.let(5, "a", 1, "k2")
        self.assertEqual([meter.earliest(6, group, 1) for group in "ab"], [15, 6])


class Released(unittest.TestCase):
    def test_windows_spans_buckets_and_gaps(self):
        for limit in (("n", "window", (), (5, 9)), ("n", "span", (), (5, 9)), ("n", "bucket", (), (5, 9)),
                      ("n", "gap", (), (9,))):
            meter = meter_for(limit)
            meter.let(0, "a", 5, "k")
            state = meter.state_of(1)
            for key in ("k", "k", "j"):
                self.assertIs(meter.released(key, 1), False)
            self.assertEqual(meter.state_of(1), state)
            self.assertIs(meter.room(1, "a", 5), False)

    def test_held_and_pool(self):
        for limit in (("n", "held", (), (5,)), ("n", "pool", (), (5, (("a", 2, 5),)))):
            meter = meter_for(limit)
            meter.let(0, "a", 5, "k")
            self.assertIs(meter.released("j", 0), False)
            self.assertIs(meter.room(0, "a", 1), False)
            self.assertIs(meter.released("k", 1), True)
            self.assertEqual(meter.state_of(1), ())
            self.assertIs(meter.room(1, "a", 5), True)
            self.assertIs(meter.released("k", 1), False)
            self.assertIs(meter.released("k", 2), False)
            self.assertIs(meter.room(2, "a", 6), False)

    def test_just_what_the_key_held(self):
        meter = meter_for(("n", "held", (), (10,)))
        for key, cost in (("b", 2), ("a", 3), ("c", 5)):
            meter.let(0, "g", cost, key)
        self.assertEqual(meter.state_of(0), (("a", 3), ("b", 2), ("c", 5)))
        self.assertIs(meter.released("a", 4), True)
        self.assertEqual([meter.room(4, "g", cost) for cost in (3, 4)], [True, False])
        self.assertEqual(meter.state_of(4), (("b", 2), ("c", 5)))


class Pools(unittest.TestCase):
    def room_for(self, meter, group):
        """The greatest cost for which there is room."""
        return max((cost for cost in range(1, 30) if meter.room(0, group, cost)), default=0)

    def test_own_shares_stay_free(self):
        meter = meter_for(("n", "pool", (), (10, (("a", 4, 10), ("b", 3, 10), ("c", 0, 10)))))
        self.assertEqual([self.room_for(meter, group) for group in "abc"], [7, 6, 3])
        meter.let(0, "c", 3, "k1")
        self.assertEqual([self.room_for(meter, group) for group in "abc"], [4, 3, 0])
        meter.let(0, "a", 4, "k2")
        self.assertEqual([self.room_for(meter, group) for group in "abc"], [0, 3, 0])
        self.assertIs(meter.released("k1", 0), True)
        self.assertEqual([self.room_for(meter, group) for group in "abc"], [3, 6, 3])

    def test_what_is_borrowed_is_given_back_first(self):
        meter = meter_for(("n", "pool", (), (6, (("a", 2, 6), ("b", 2, 6)))))
        meter.let(0, "a", 2, "own")
        meter.let(0, "a", 2, "borrowed")
        self.assertEqual([self.room_for(meter, group) for group in "ab"], [0, 2])
        self.assertIs(meter.released("own", 0), True)
        self.assertEqual([self.room_for(meter, group) for group in "ab"], [2, 4])

    def test_ceilings(self):
        meter = meter_for(("n", "pool", (), (100, (("a", 2, 5), ("b", 3, 3), ("c", 0, 0)))))
        self.assertEqual([self.room_for(meter, group) for group in "abc"], [5, 3, 0])
        meter.let(0, "a", 4, "k")
        self.assertEqual([self.room_for(meter, group) for group in "abc"], [1, 3, 0])

    def test_one_to_eight_shares(self):
        for many in range(1, 9):
            shares = tuple((group, 1, 3) for group in "abcdefgh"[:many])
            meter = meter_for(("n", "pool", (), (many + 1, shares)))
            meter.let(0, "a", 2, "k")
            rooms = [self.room_for(meter, group) for group, own, ceiling in shares]
            self.assertEqual(rooms, [0] + [1] * (many - 1))
            self.assertEqual(self.room_for(meter, "z"), 29)

    def test_state_is_ordered_by_keys(self):
        meter = meter_for(("n", "pool", (), (10, (("a", 0, 10), ("b", 0, 10)))))
        for key, group, cost in (("k2", "a", 3), ("k10", "b", 1), ("-", "a", 2)):
            meter.let(0, group, cost, key)
        self.assertEqual(meter.state_of(7), (("-", "a", 2), ("k10", "b", 1), ("k2", "a", 3)))


class Bounds(unittest.TestCase):
    """Great numbers and great moments, for which the moments cannot be tried one by one."""

    def check_earliest(self, limit, deeds, moment, cost, expected):
        meter = meter_for(limit)
        for number, (then, costs) in enumerate(deeds):
            self.assertIs(meter.room(then, "a", costs), True, (limit, deeds, number))
            meter.let(then, "a", costs, f"k{number}")
        row = [("let", f"k{number}", "a", costs, then) for number, (then, costs) in enumerate(deeds)]
        told = (limit, deeds, moment, cost)
        self.assertEqual(meter.earliest(moment, "a", cost), expected, told)
        self.assertIs(meter.room(moment, "a", cost), expected == moment, told)
        if expected is None:
            self.assertIs(definition.has_room(limit, row, moment + 10 ** 13, "a", cost), False, told)
            return
        self.assertIs(definition.has_room(limit, row, expected, "a", cost), True, told)
        self.assertIs(meter.room(expected, "a", cost), True, told)
        if expected > moment:
            self.assertIs(definition.has_room(limit, row, expected - 1, "a", cost), False, told)
            self.assertIs(meter.room(expected - 1, "a", cost), False, told)

    def test_nothing_at_all(self):
        for word in ("window", "span", "bucket"):
            for number in (1, 1000000):
                for moment in (0, 1, 1000000000):
                    self.check_earliest(("n", word, (), (0, number)), [], moment, 1, None)
        self.check_earliest(("n", "held", (), (0,)), [], 0, 1, None)

    def test_more_than_ever_has_room(self):
        for word in ("window", "span", "bucket"):
            for number in (1, 1000000):
                self.check_earliest(("n", word, (), (999, number)), [], 1000000000, 1000, None)
                self.check_earliest(("n", word, (), (1000, number)), [], 1000000000, 1000, 1000000000)
                self.check_earliest(("n", word, (), (1, number)), [(0, 1)], 0, 2, None)

    def test_numbers_of_one(self):
        for moment in (0, 999999999, 1000000000):
            self.check_earliest(("n", "window", (), (1, 1)), [(moment, 1)], moment, 1, moment + 1)
            self.check_earliest(("n", "span", (), (1, 1)), [(moment, 1)], moment, 1, moment + 1)
            self.check_earliest(("n", "bucket", (), (1, 1)), [(moment, 1)], moment, 1, moment + 1)
            self.check_earliest(("n", "gap", (), (1,)), [(moment, 1)], moment, 1, moment + 1)
            self.check_earliest(("n", "held", (), (1,)), [(moment, 1)], moment, 1, None)

    def test_great_numbers(self):
        top = 1000000
        for start in (0, 1, 999999, 1000000, 999000000, 1000000000):
            span_end = (start // top + 1) * top
            self.check_earliest(("n", "window", (), (1000, top)), [(start, 1000)], start, 1, start + top)
            self.check_earliest(("n", "span", (), (1000, top)), [(start, 1000)], start, 1, span_end)
            self.check_earliest(("n", "bucket", (), (1000, top)), [(start, 1000)], start, 1, start + top)
            self.check_earliest(("n", "bucket", (), (1000, top)), [(start, 1000)], start, 1000, start + 1000 * top)
            self.check_earliest(("n", "gap", (), (top,)), [(start, 1000)], start, 1, start + top)
            full = [(start, 1000)] * 1000
            meter = meter_for(("n", "held", (), (top,)))
            for number, (then, cost) in enumerate(full):
                meter.let(then, "a", cost, f"k{number}")
            self.assertIsNone(meter.earliest(start, "a", 1))

    def test_most_and_size_at_their_bound(self):
        for word in ("window", "span", "bucket"):
            meter = meter_for(("n", word, (), (1000000, 1000000)))
            for number in range(1000):
                self.assertIs(meter.room(7, "a", 1000), True)
                meter.let(7, "a", 1000, f"k{number}")
            self.assertEqual(meter.earliest(8, "a", 1), {"window": 1000007, "span": 1000000, "bucket": 1000007}[word])
            self.assertIs(meter.room(8, "a", 1), False)

    def test_beyond_the_greatest_moment(self):
        self.check_earliest(("n", "window", (), (3, 10)), [(999999998, 2), (1000000000, 1)], 1000000000, 2, 1000000008)
        self.check_earliest(("n", "window", (), (3, 10)), [(999999998, 2), (1000000000, 1)], 1000000000, 3, 1000000010)
        self.check_earliest(("n", "span", (), (3, 999)), [(1000000000, 3)], 1000000000, 1, 1000000998)
        self.check_earliest(("n", "bucket", (), (3, 100)), [(999999999, 3)], 1000000000, 2, 1000000199)
        self.check_earliest(("n", "gap", (), (5,)), [(1000000000, 1)], 1000000000, 9, 1000000005)


class States(unittest.TestCase):
    """Point 19, word by word."""

    def meter(self, word, numbers, deeds):
        meter = meter_for(("n", word, (), numbers))
        for key, cost, moment in deeds:
            meter.let(moment, "a", cost, key)
        return meter

    def test_window(self):
        meter = self.meter("window", (20, 10), [("b", 2, 0), ("a", 3, 5), ("d", 1, 5), ("c", 4, 9)])
        for moment, state in (
            (9, ((0, 2), (5, 4), (9, 4))), (10, ((5, 4), (9, 4))), (14, ((5, 4), (9, 4))), (15, ((9, 4),)),
            (18, ((9, 4),)), (19, ()), (1000, ()),
        ):
            self.assertEqual(meter.state_of(moment), state)

    def test_span(self):
        meter = self.meter("span", (20, 10), [("b", 2, 0), ("a", 3, 12), ("d", 1, 12), ("c", 4, 13)])
        for moment, state in ((13, (1, 8)), (19, (1, 8)), (20, ()), (1000, ())):
            self.assertEqual(meter.state_of(moment), state)

    def test_bucket(self):
        meter = self.meter("bucket", (20, 10), [("b", 2, 0), ("a", 1, 15), ("d", 1, 15)])
        for moment, state in ((15, (25,)), (16, (24,)), (39, (1,)), (40, ()), (1000, ())):
            self.assertEqual(meter.state_of(moment), state)
        meter.let(50, "a", 2, "e")
        self.assertEqual(meter.state_of(50), (20,))

    def test_gap(self):
        meter = self.meter("gap", (10,), [("b", 2, 0), ("a", 1, 15)])
        for moment, state in ((15, (15,)), (24, (15,)), (25, ()), (1000, ())):
            self.assertEqual(meter.state_of(moment), state)

    def test_held(self):
        meter = self.meter("held", (10,), [("b", 2, 0), ("a", 1, 15), ("-", 1, 15), ("b-", 3, 15)])
        self.assertEqual(meter.state_of(15), (("-", 1), ("a", 1), ("b", 2), ("b-", 3)))
        meter.released("a", 16)
        self.assertEqual(meter.state_of(1000), (("-", 1), ("b", 2), ("b-", 3)))

    def test_pool(self):
        meter = self.meter("pool", (10, (("a", 0, 10),)), [("b", 2, 0), ("a", 1, 15), ("-", 1, 15)])
        self.assertEqual(meter.state_of(15), (("-", "a", 1), ("a", "a", 1), ("b", "a", 2)))
        meter.released("b", 16)
        self.assertEqual(meter.state_of(1000), (("-", "a", 1), ("a", "a", 1)))

    def test_nothing_was_told(self):
        for limit in LIMITS:
            for moment in (0, 7, 1000000000):
                self.assertEqual(meter_for(limit).state_of(moment), ())
                self.assertEqual(meter_from(limit, (), moment).state_of(moment), ())


class Examples(unittest.TestCase):
    def test_as_in_the_document(self):
        meter = meter_for(("few", "window", (), (5, 10)))
        meter.let(3, "a", 2, "k1")
        meter.let(8, "b", 3, "k2")
        self.assertEqual([meter.room(12, "a", 1), meter.earliest(12, "a", 2), meter.earliest(12, "a", 6)],
                         [False, 13, None])
        self.assertEqual(meter.state_of(13), ((8, 3),))
        slow = meter_for(("slow", "bucket", ("a",), (2, 7)))
        slow.let(4, "a", 2, "k1")
        self.assertEqual([slow.state_of(9), slow.earliest(9, "a", 1), slow.earliest(9, "b", 900)], [(9,), 11, 9])
        self.assertEqual(meter_from(("slow", "bucket", ("a",), (2, 7)), (9,), 9).earliest(9, "a", 2), 18)
