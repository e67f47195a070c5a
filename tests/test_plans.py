"""[7] the sequence of rides, [9] plans; with_budget, with_part, beside."""

import itertools
import unittest

from citylines.days import day
from citylines.errors import (
    InvalidMany, InvalidPlan, InvalidRide, InvalidWord, TooMany, UnlikeBudgets, UnsoundPlan, WithHeard, WithSpares,
)
from citylines.plans import beside, is_plan, ride_at, rides, unsound, with_budget, with_part
from helpers import Case, Few, NO_INTEGERS, OTHERS, even_table
from reckon import all_rides, courses, reckoned_day
from some_plans import WORDS, made, put_part
from told_plans import CASE_B, RICH, overview, plan_of

UNSOUND = put_part(CASE_B, "promises", (("driven", 1, 29),))


class Rides(Case):
    def test_the_sequence(self):
        for plan in [RICH, overview()] + [made(number) for number in range(40)]:
            self.assert_told(all_rides(plan[3]), rides, plan)
            for position, (trip, hop) in enumerate(all_rides(plan[3])):
                self.assert_told(position, ride_at, plan, trip, hop)

    def test_alike_departures_by_trip_then_hop(self):
        plan = plan_of([((0, 1), (5,), ()), ((1, 2, 3), (5, 5), (0,))], [(1, (0, 7)), (0, (7,)), (0, (9,)), (1, (2, 9))])
        self.assert_told([(0, 0), (3, 0), (0, 1), (1, 0), (2, 0), (3, 1)], rides, plan)

    def test_plain(self):
        plan = put_part(overview(), "trips", (("trip", Few.NONE, (Few.NONE,)), ("trip", Few.ONE, (12,))))
        self.assert_told([(0, 0), (1, 0)], rides, plan)
        self.assert_told(1, ride_at, plan, Few.ONE, Few.NONE)

    def test_no_rides(self):
        for trip, hop in ((2, 0), (0, 1), (-1, 0), (0, -1), (10 ** 29, 0), (0, 10 ** 29)):
            self.assert_error(InvalidRide, [(trip, hop)], ride_at, overview(), trip, hop)
        for value in NO_INTEGERS:
            for trip, hop in ((value, 0), (0, value)):
                with self.assertRaises(InvalidRide) as held:
                    ride_at(overview(), trip, hop)
                self.assertIs(held.exception.value[0], trip)
                self.assertIs(held.exception.value[1], hop)
        self.assert_error(InvalidPlan, [UNSOUND], ride_at, UNSOUND, 9, 9)

    def test_no_plans(self):
        for value in OTHERS + [UNSOUND, list(overview())]:
            self.assert_error(InvalidPlan, [value], rides, value)
            self.assert_error(InvalidPlan, [value], ride_at, value, 0, 0)
            self.assert_error(InvalidPlan, [value], with_budget, value, 0)
            self.assert_error(InvalidPlan, [value], with_part, value, "meets", ())
            self.assert_error(InvalidPlan, [value], beside, value, overview())
            self.assert_error(InvalidPlan, [value], beside, overview(), value)

    def test_by_name(self):
        plan = overview()
        self.assert_by_name(is_plan, value=plan)
        self.assert_by_name(unsound, value=plan[:3])
        self.assert_by_name(rides, plan=plan)
        self.assert_by_name(ride_at, plan=plan, trip=1, hop=0)
        self.assert_by_name(with_budget, plan=plan, many=7)
        self.assert_by_name(with_part, plan=plan, word="spares", value=(1, 2, 3))
        self.assert_by_name(beside, plan=plan, other=overview(way="blind"))


class Changed(Case):
    def test_with_budget(self):
        plan = overview()
        for many in range(21):
            self.assert_told(plan[:8] + ((plan[8][0], many),) + plan[9:], with_budget, plan, many)
        for many in (-1, 21, 10 ** 29):
            self.assert_error(InvalidMany, [many], with_budget, plan, many)
        for value in NO_INTEGERS:
            self.assert_error(InvalidMany, [value], with_budget, plan, value)
            self.assert_error(InvalidPlan, [UNSOUND], with_budget, UNSOUND, value)

    def test_with_budget_of_what_is_heard(self):
        plan = put_part(overview(), "heard", (4, 0))
        for many in range(4):
            self.assert_error(InvalidMany, [many], with_budget, plan, many)
        self.assert_told(plan[:8] + ((((5,), (0,)), 4),) + plan[9:], with_budget, plan, 4)

    def test_with_part(self):
        plan = overview()
        for word, value in (
            ("promises", ()), ("meets", (("meet", 0, 0, 1, 0, 9, "blind"),)), ("delays", (((0,), (9,)), 20)),
            ("spares", (3, 2, 1)), ("spares", None), ("heard", (3,)), ("remedies", ((0, ("free", 0)),)),
            ("trips", (("trip", 0, (1,)), ("trip", 1, (12,)))),
        ):
            self.assert_told(put_part(plan, word, value), with_part, plan, word, value)
        for at, word in enumerate(WORDS, 1):
            self.assert_told(RICH, with_part, RICH, word, RICH[at])

    def test_with_part_tells_what_is_unsound(self):
        plan = overview()
        for word, value, told in (
            ("promises", (("meets", 1),), "promises"), ("meets", (), None), ("city", RICH[1], None), ("lines", RICH[2], "trips"),
            ("trips", (("trip", 0, (2,)), ("trip", 1, (12,))), "meets"), ("trips", (("trip", 0, (0,)),), "blocks"),
            ("spares", (), "spares"), ("heard", (6,), "heard"), ("delays", (((5,),), 5), "delays"), ("remedies", None, "remedies"),
        ):
            changed = put_part(plan, word, value)
            self.assertEqual(told, unsound(changed))
            if told is not None:
                self.assert_unsound(told, plan, word, value)
        self.assert_unsound("kept", CASE_B, "promises", (("driven", 1, 29),))
        self.assert_unsound("told", CASE_B, "blocks", (("block", (0, 1), (1,), None),))
        self.assert_unsound("remedies", put_part(RICH, "remedies", ()), "remedies", ((3, ("free", 0)),))

    def test_with_part_of_values_of_all_kinds(self):
        for word in WORDS:
            for value in OTHERS:
                if not (value is None and word == "spares") and not (isinstance(value, tuple) and not value):
                    self.assert_unsound(word, RICH, word, value)

    def assert_unsound(self, told, plan, word, value):
        with self.assertRaises(UnsoundPlan) as held:
            with_part(plan, word, value)
        self.assertIs(type(held.exception), UnsoundPlan)
        self.assertEqual(told, held.exception.word)

    def test_no_words(self):
        for value in OTHERS + ["form", "told", "kept", "plan", "Meets", "meets ", "promise", b"meets", ["meets"]]:
            if not isinstance(value, str) or value not in WORDS:
                self.assert_error(InvalidWord, [value], with_part, overview(), value, None)
                self.assert_error(InvalidPlan, [UNSOUND], with_part, UNSOUND, value, None)

    def test_plain(self):
        plan = put_part(overview(), "spares", (Few.ONE, Few.NONE, Few.TWO))
        self.assert_same(put_part(overview(budget=1), "spares", (1, 0, 2)), with_budget(plan, Few.ONE))
        self.assert_same(put_part(overview(), "spares", (1, 0, 2)), with_part(plan, "heard", ()))
        self.assert_same(put_part(overview(), "heard", (1,)), with_part(overview(), "heard", (Few.ONE,)))


def other_numbers(plan, stop, line, trip, duty, meet):
    """The plan's rows with all numbers moved up, part by part, as the document tells."""
    _, city, lines, trips, blocks, duties, meets, promises, delays, _, _, _ = plan
    moved = []
    for promise in promises:
        add = {"meets": meet, "leaves": trip, "ends": trip, "driven": duty, "long": duty}[promise[0]]
        moved.append((promise[0], promise[1] + add) + promise[2:])
    return (
        tuple((row[0], tuple(one + stop for one in row[1])) + row[2:] for row in lines),
        tuple((row[0], row[1] + line, row[2]) for row in trips),
        tuple((row[0], tuple(one + trip for one in row[1])) + row[2:] for row in blocks),
        tuple((row[0], tuple((piece[0] + trip,) + piece[1:] for piece in row[1]), row[2]) for row in duties),
        tuple((row[0], row[1] + trip, row[2], row[3] + trip) + row[4:] for row in meets),
        tuple(moved),
    )


def wide_table(one, other):
    size, more = len(one), len(other)
    return tuple(row + (120,) * more for row in one) + tuple((120,) * size + row for row in other)


def put_beside(one, other):
    parts = other_numbers(other, len(one[1][1]), len(one[2]), len(one[3]), len(one[5]), len(one[6]))
    city = (
        "city", one[1][1] + other[1][1], one[1][2] + other[1][2], wide_table(one[1][3], other[1][3]),
        wide_table(one[1][4], other[1][4]),
    )
    rows = tuple(one[at + 2] + part for at, part in enumerate(parts))
    return ("plan", city) + rows + ((one[8][0] + other[8][0], one[8][1]), None, (), ())


def free_plan(number, budget=3):
    plan = made(number, rides=4, spares=False, remedies=False)
    return put_part(plan, "delays", (plan[8][0], budget))


class Beside(Case):
    def test_both_as_one(self):
        for number in range(30):
            one, other = free_plan(number), free_plan(number + 1)
            both = put_beside(one, other)
            self.assertIsNone(unsound(both))
            self.assert_told(both, beside, one, other)

    def test_its_day_is_both_days(self):
        for number in range(12):
            one, other = free_plan(number), free_plan(number + 50)
            both = beside(one, other)
            sequence = all_rides(both[3])
            first, more = all_rides(one[3]), all_rides(other[3])
            some = courses(one)[::3], courses(other)[::3]
            for course, behind in itertools.product(*some):
                delays = dict(zip(first, course)) | {
                    (trip + len(one[3]), hop): delay for (trip, hop), delay in zip(more, behind)
                }
                if sum(delays.values()) <= both[8][1]:
                    self.assert_day(one, other, sequence, reckoned_day(one, course), reckoned_day(other, behind),
                                    day(both, [delays[ride] for ride in sequence]))

    def assert_day(self, one, other, sequence, day_one, day_other, both):
        times = dict(zip(all_rides(one[3]), day_one[1]))
        behind = dict(zip(all_rides(other[3]), day_other[1]))
        times.update({(trip + len(one[3]), hop): behind[trip, hop] for trip, hop in behind})
        self.assertEqual(tuple(times[ride] for ride in sequence), both[1])
        self.assertEqual(day_one[2] + day_other[2], both[2])
        told = [(all_rides(one[3])[at], promise, by) for at, promise, by in day_one[3]]
        for at, promise, by in day_other[3]:
            trip, hop = all_rides(other[3])[at]
            told.append(((trip + len(one[3]), hop), promise + len(one[7]), by))
        self.assertEqual(sorted(told), sorted((sequence[at], promise, by) for at, promise, by in both[3]))
        self.assertEqual(tuple(sorted(both[3])), both[3])

    def test_plain(self):
        plan = put_part(overview(), "trips", (("trip", Few.NONE, (Few.NONE,)), ("trip", Few.ONE, (12,))))
        self.assert_same(put_beside(overview(), overview()), beside(plan, plan))

    def test_errors_in_their_sequence(self):
        plan = overview()
        unlike, spared = overview(budget=4), put_part(plan, "spares", (0, 0, 0))
        heard, freed = put_part(plan, "heard", (0,)), put_part(plan, "remedies", ((0, ("free", 0)),))
        big = plan_of([((0, 1), (5,), ())], [(0, (0,))], stops=11, budget=5)
        for one, other, kind in (
            (plan, unlike, UnlikeBudgets), (unlike, plan, UnlikeBudgets), (plan, spared, WithSpares), (spared, plan, WithSpares),
            (plan, heard, WithHeard), (heard, plan, WithHeard), (plan, freed, WithHeard), (freed, plan, WithHeard),
            (put_part(spared, "heard", (0,)), unlike, UnlikeBudgets), (spared, heard, WithSpares), (freed, spared, WithSpares),
            (heard, big, WithHeard), (put_part(big, "spares", (1, 1, 1)), heard, WithSpares),
        ):
            with self.assertRaises(kind) as held:
                beside(one, other)
            self.assertIs(type(held.exception), kind)
        self.assert_error(InvalidPlan, [UNSOUND], beside, UNSOUND, None)
        self.assert_error(InvalidPlan, [None], beside, unlike, None)


class Limits(Case):
    """Each limit on both sides: one plan of the first sizes, another one with one more."""

    def sized(self, stops=2, lines=1, trips=1, hops=1, meets=0, promises=0):
        """A plan of just these sizes: so many trips, the first one of so many hops more than one."""
        city = ("city", (1,) * stops, (0,) * stops, even_table(stops, 5), even_table(stops, 1))
        short = ("line", (0, 1), (1,), (), 1)
        long = ("line", tuple(at % 2 for at in range(hops + 1)), (1,) * hops, (0,) * (hops - 1), 1)
        rows = [("trip", 0, tuple(range(hops)))] + [("trip", 1 % lines, (20 + 10 * at,)) for at in range(trips - 1)]
        if lines == 1:
            rows = [("trip", 0, tuple(20 * at + hop for hop in range(hops))) for at in range(trips)]
        blocks = (("block", tuple(range(trips)), (1,) * (trips - 1), None),)
        duties = tuple(("duty", ((at, 0, len(row[2]) - 1),), ()) for at, row in enumerate(rows))
        pairs = itertools.combinations(range(trips), 2)
        found = tuple(("meet", one, 0, other, 0, 0, "blind") for one, other in pairs)[:meets]
        told = tuple(("ends", 0, late) for late in range(promises))
        bounds = tuple((0,) * len(row[2]) for row in rows)
        return (
            "plan", city, (long,) + (short,) * (lines - 1), tuple(rows), blocks, duties, found, told, (bounds, 0), None, (), (),
        )

    def assert_limit(self, what, limit, one, other, more):
        for plan in (one, other, more):
            self.assertIsNone(unsound(plan), what)
        self.assertIsNone(unsound(beside(one, other)))
        for first, second in ((one, more), (more, one)):
            self.assert_error(TooMany, [what, limit], beside, first, second)

    def test_each_limit(self):
        sized = self.sized
        self.assert_limit("stops", 12, sized(stops=5), sized(stops=7), sized(stops=8))
        self.assert_limit("lines", 8, sized(lines=3), sized(lines=5), sized(lines=6))
        self.assert_limit("trips", 16, sized(trips=6), sized(trips=10), sized(trips=11))
        self.assert_limit("rides", 60, sized(trips=5, hops=5), sized(trips=7, hops=5), sized(trips=6, hops=6))
        self.assert_limit("meets", 24, sized(trips=6, meets=14), sized(trips=6, meets=10), sized(trips=6, meets=11))
        self.assert_limit("promises", 24, sized(promises=11), sized(promises=13), sized(promises=14))

    def test_the_first_limit_is_told(self):
        sized = self.sized
        everything = sized(stops=8, lines=6, trips=9, hops=7, promises=14)
        self.assert_error(TooMany, ["stops", 12], beside, everything, sized(stops=5, lines=3, trips=8, hops=7, promises=11))
        self.assert_error(TooMany, ["lines", 8], beside, everything, sized(stops=4, lines=3, trips=8, hops=7, promises=11))
        many = sized(trips=8, hops=7, meets=20, promises=20)
        self.assert_error(TooMany, ["trips", 16], beside, many, sized(trips=9, hops=6, meets=20, promises=20))
        self.assert_error(TooMany, ["rides", 60], beside, many, sized(trips=8, hops=6, meets=20, promises=20))
        self.assert_error(TooMany, ["meets", 24], beside, sized(trips=7, meets=15, promises=20), sized(trips=7, meets=15, promises=20))
        self.assert_error(TooMany, ["promises", 24], beside, sized(trips=7, meets=12, promises=20), sized(meets=0, promises=5))


if __name__ == "__main__":
    unittest.main()
