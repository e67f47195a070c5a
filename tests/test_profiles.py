"""[77], [78]: stairs, earliest arrivals, quick ways, plans alike for riders, against all journeys gone through."""

import random
import unittest

from citylines.errors import InvalidMinute, InvalidPlan, InvalidStop, UnlikeStops
from citylines.plans import is_plan
from citylines.profiles import (
    are_same_for_riders, are_staircases, earliest, is_parting_rider, parting_rider, quick_way, staircase, staircases,
)
from citylines.riders import arrival, is_way
from helpers import Case, Few, NO_INTEGERS, OTHERS, is_plain, put
from reckon import all_rides
from riding import hops_of, parts
from some_plans import made, put_part
from told_plans import CASE_B, RICH, TRIO, plan_of

UNSOUND = put_part(CASE_B, "promises", (("driven", 1, 29),))


def soonest(plan, stop, goal, minute, most=4):
    """The least arrival of all journeys that set out at the minute, gone through; None without one."""
    _, _, changes, walks, _ = plan[1]
    found = []

    def go(at, now, rides):
        if rides > 0:
            found.append(now + walks[at][goal])
        if rides == most:
            return
        for begin in range(len(changes)):
            ready = now + (walks[at][begin] if begin != at else changes[at] if rides > 0 else 0)
            for line in range(len(plan[2])):
                for other in range(len(changes)):
                    hops = hops_of(plan, line, begin, other) if other != begin else None
                    for trip in plan[3]:
                        if hops is not None and trip[1] == line and trip[2][hops[0]] >= ready:
                            go(other, trip[2][hops[1]] + plan[2][line][2][hops[1]], rides + 1)

    go(stop, minute, 0)
    return min(found, default=None)


def stairs_by_minutes(plan, stop, goal):
    """The staircase by the definition: the last minute from which each of the least arrivals can be had."""
    last = max(minute for trip in plan[3] for minute in trip[2])
    arrivals = [soonest(plan, stop, goal, minute) for minute in range(last + 1)] + [None]
    return [(at, arrivals[at]) for at in range(last + 1) if arrivals[at] != arrivals[at + 1]]


def pairs(plan):
    stops = range(len(plan[1][1]))
    return [(stop, goal) for stop in stops for goal in stops if stop != goal]


class Stairs(Case):
    def assert_stairs(self, plan):
        rows = []
        for stop, goal in pairs(plan):
            told = stairs_by_minutes(plan, stop, goal)
            rows.append((stop, goal, told))
            self.assert_told(told, staircase, plan, stop, goal)
            minutes = {0, 1999} | {minute for leave, _ in told for minute in (leave - 1, leave, leave + 1)}
            for minute in sorted(minutes - {-1, 2000}):
                expected = soonest(plan, stop, goal, minute)
                self.assert_told(expected, earliest, plan, stop, goal, minute)
                self.assert_quick(plan, stop, goal, minute, expected)
        self.assert_told(rows, staircases, plan)
        self.assert_yes(are_staircases, plan, rows)
        return rows

    def assert_quick(self, plan, stop, goal, minute, expected):
        way = quick_way(plan, stop, goal, minute)
        self.assertEqual(way, quick_way(plan, stop, goal, minute))
        if expected is None:
            self.assertIsNone(way)
            return
        told = plan[:9] + (None, (), ())
        self.assertTrue(is_plain(way))
        self.assert_yes(is_way, told, way)
        self.assertEqual((stop, minute), way[:2])
        words = [part[0] for part in parts(way[2])]
        self.assertNotIn("by", words)
        self.assertTrue(1 <= words.count("ride") <= 4)
        self.assertEqual("there", words[-1])
        # Where one alights last, or to where one walks from there, is the goal.
        stops = [part[-2] for part in parts(way[2]) if part[0] in ("walk", "ride")]
        self.assertEqual(goal, stops[-1])
        self.assertEqual(expected, arrival(told, [0] * len(all_rides(plan[3])), way))

    def test_small_plans(self):
        rows = 0
        for number in range(60):
            found = self.assert_stairs(made(number, rides=6))
            rows += sum(len(stairs) for _, _, stairs in found)
        self.assertGreater(rows, 200)

    def test_more_rides(self):
        for number in range(100, 108):
            self.assert_stairs(made(number, rides=9))

    def test_without_changes_and_with_long_walks(self):
        for number in range(200, 225):
            plan = made(number, rides=6, remedies=False, spares=False)
            many = len(plan[1][1])
            far = tuple(tuple(0 if one == other else 90 for other in range(many)) for one in range(many))
            for changes, walks in (((0,) * many, plan[1][3]), ((3,) * many, plan[1][3]), (plan[1][2], far)):
                other = put_part(put_part(plan, "city", plan[1][:2] + (changes, walks, plan[1][4])), "duties", tuple(
                    ("duty", ((trip, 0, len(row[2]) - 1),), ()) for trip, row in enumerate(plan[3])
                ))
                other = put_part(put_part(other, "meets", ()), "promises", ())
                self.assertTrue(is_plan(other))
                self.assert_stairs(other)

    def test_what_is_heard_and_remedies_have_no_say(self):
        for plan in [RICH] + [made(number, rides=6, remedies=True) for number in range(300, 320)]:
            told = plan[:9] + (None, (), ())
            self.assertEqual(staircases(told), self.assert_stairs(plan))
            for minute in (0, 5, 20):
                for stop, goal in pairs(plan):
                    self.assertEqual(quick_way(told, stop, goal, minute), quick_way(plan, stop, goal, minute))

    def test_the_example(self):
        self.assert_stairs(TRIO)
        self.assert_told([(10, 65)], staircase, TRIO, 2, 0)

    def test_four_rides_and_no_more(self):
        lines = [((at, at + 1), (5,), ()) for at in range(6)]
        plan = plan_of(lines, [(at, (10 * at,)) for at in range(6)], stops=7, walk=100)
        self.assert_told([(0, 35)], staircase, plan, 0, 4)
        # Farther on no fifth one is taken, but a walk behind the first one.
        self.assert_told([(0, 105)], staircase, plan, 0, 5)
        self.assert_told([(10, 45)], staircase, plan, 1, 5)
        all_of_them = {row[:2]: row[2] for row in staircases(plan)}
        for stop, goal in ((0, 1), (0, 2), (0, 3), (0, 4), (0, 5), (0, 6), (1, 5), (2, 6)):
            told = stairs_by_minutes(plan, stop, goal)
            self.assert_told(told, staircase, plan, stop, goal)
            self.assertEqual(told, all_of_them[stop, goal])
            for minute in (0, 10, 20):
                self.assert_quick(plan, stop, goal, minute, soonest(plan, stop, goal, minute))

    def test_no_walk_alone_and_one_walk_at_a_time(self):
        plan = plan_of([((0, 1), (5,), ())], [(0, (20,))], stops=4, walk=7)
        self.assert_told([(20, 25)], staircase, plan, 0, 1)
        self.assert_told([(20, 32)], staircase, plan, 0, 2)
        self.assert_told([(13, 32)], staircase, plan, 2, 3)
        self.assert_told([(13, 25)], staircase, plan, 2, 1)
        # From 1 one walks to 0, and comes back to 1, which is no journey; but to 0 it is none without a ride.
        self.assert_told([(13, 32)], staircase, plan, 1, 0)
        self.assert_told([(13, 32)], staircase, plan, 1, 2)

    def test_nobody_sets_out_ahead_of_minute_0(self):
        plan = plan_of([((0, 1), (5,), ())], [(0, (6,)), (0, (7,))], stops=3, walk=7)
        self.assert_told([(0, 12)], staircase, plan, 2, 1)
        plan = plan_of([((0, 1), (5,), ())], [(0, (6,))], stops=3, walk=7)
        self.assert_told([], staircase, plan, 2, 1)
        self.assert_told(None, earliest, plan, 2, 1, 0)
        self.assert_told(None, quick_way, plan, 2, 1, 0)

    def test_changes_just_in_time_and_a_minute_late(self):
        for change, stairs in ((3, [(0, 13)]), (4, [(0, 105)])):
            plan = plan_of(
                [((0, 1), (5,), ()), ((1, 2), (5,), ())], [(0, (0,)), (1, (8,))], stops=3, walk=100, changes=change,
            )
            self.assert_told(stairs, staircase, plan, 0, 2)
        # From 0 one can walk to 2 as well: that is the later one of two stairs to 3, where both are some.
        for walk, stairs in ((3, [(5, 13)]), (4, [(4, 13)]), (8, [(0, 13)]), (9, [(0, 14)])):
            plan = plan_of([((0, 1), (5,), ()), ((2, 3), (5,), ())], [(0, (0,)), (1, (8,))], stops=4, walk=walk)
            self.assert_told(stairs_by_minutes(plan, 0, 3), staircase, plan, 0, 3)
            self.assert_told(stairs, lambda: staircase(plan, 0, 3)[-1:])

    def test_lines_that_come_to_a_stop_again(self):
        # From 0 to 3 one boards at the first hop alone, though the line comes to 0 again.
        plan = plan_of([((0, 1, 0, 2, 3), (5, 5, 5, 5), (0, 0, 0))], [(0, (10, 15, 20, 25))], stops=4, walk=60)
        self.assert_told([(10, 30)], staircase, plan, 0, 3)
        self.assert_told([(10, 25)], staircase, plan, 0, 2)
        self.assert_told([(10, 15)], staircase, plan, 0, 1)
        self.assert_told([(15, 20)], staircase, plan, 1, 0)
        self.assert_stairs(plan)

    def test_late_minutes(self):
        plan = plan_of([((0, 1), (99,), ()), ((1, 2), (5,), ())], [(0, (1900,)), (0, (1999,)), (1, (1999,))], stops=3, walk=100)
        self.assert_told([(1900, 2004), (1999, 2198)], staircase, plan, 0, 2)
        self.assert_told(2198, earliest, plan, 0, 2, 1999)
        self.assert_told([(1900, 1999), (1999, 2098)], staircase, plan, 0, 1)
        self.assert_told(2098, earliest, plan, 0, 1, 1901)

    def test_is_the_list_of_staircases(self):
        for plan in (TRIO, made(3, rides=6), made(8, rides=6)):
            rows = staircases(plan)
            self.assert_yes(are_staircases, plan, tuple(rows))
            self.assert_yes(are_staircases, plan, [(stop, goal, tuple(stairs)) for stop, goal, stairs in rows])
            self.assert_no(are_staircases, plan, rows[:-1])
            self.assert_no(are_staircases, plan, rows[1:])
            self.assert_no(are_staircases, plan, rows + rows[:1])
            self.assert_no(are_staircases, plan, rows[::-1])
            self.assert_no(are_staircases, plan, [list(row) for row in rows])
            for at, (stop, goal, stairs) in enumerate(rows):
                for row in ((goal, stop, stairs), (stop, goal), (stop, goal, stairs, 0), (stop, goal, stairs + [(1999, 2500)])):
                    self.assert_no(are_staircases, plan, put(rows, (at,), row))
                for stair in range(len(stairs)):
                    leave, arrive = stairs[stair]
                    spoilt = [stairs[:stair] + stairs[stair + 1:], stairs + [stairs[stair]], put(stairs, (stair,), [leave, arrive])]
                    spoilt.extend(put(stairs, (stair,), pair) for pair in ((leave + 1, arrive), (leave, arrive + 1), (leave,), (leave, arrive, 0)))
                    for other in spoilt:
                        self.assert_no(are_staircases, plan, put(rows, (at, 2), other))
                if len(stairs) > 1:
                    self.assert_no(are_staircases, plan, put(rows, (at, 2), stairs[::-1]))

    def test_true_is_not_1(self):
        plan = plan_of([((0, 1), (1,), ())], [(0, (0,))], stops=2, walk=9)
        rows = [(0, 1, [(0, 1)]), (1, 0, [])]
        self.assert_told(rows, staircases, plan)
        self.assert_yes(are_staircases, plan, [(Few.NONE, Few.ONE, [(Few.NONE, Few.ONE)]), (1, 0, ())])
        for path in ((0, 0), (0, 1), (0, 2, 0, 0), (0, 2, 0, 1), (1, 0), (1, 1)):
            for value in NO_INTEGERS:
                self.assert_no(are_staircases, plan, put(rows, path, value))

    def test_values_of_all_kinds(self):
        for value in OTHERS:
            self.assert_no(are_staircases, TRIO, value)
            self.assert_no(are_staircases, TRIO, [value] * 6)
            self.assert_no(are_staircases, TRIO, put(staircases(TRIO), (0, 2), value))
            self.assert_no(are_staircases, TRIO, put(staircases(TRIO), (0, 2, 0), value))

    def test_errors(self):
        for value in OTHERS + [UNSOUND]:
            self.assert_error(InvalidPlan, [value], staircase, value, None, None)
            self.assert_error(InvalidPlan, [value], earliest, value, None, None, None)
            self.assert_error(InvalidPlan, [value], quick_way, value, None, None, None)
            self.assert_error(InvalidPlan, [value], staircases, value)
            self.assert_error(InvalidPlan, [value], are_staircases, value, None)
        for value in NO_INTEGERS + [-1, 3, 10 ** 29]:
            self.assert_error(InvalidStop, [value], staircase, TRIO, value, None)
            self.assert_error(InvalidStop, [value], staircase, TRIO, 0, value)
            for call in (earliest, quick_way):
                self.assert_error(InvalidStop, [value], call, TRIO, value, None, None)
                self.assert_error(InvalidStop, [value], call, TRIO, 0, value, None)
        for call, more in ((staircase, ()), (earliest, (None,)), (quick_way, (None,))):
            self.assert_error(InvalidStop, [1], call, TRIO, 1, 1, *more)
        for value in NO_INTEGERS + [-1, 2000]:
            for call in (earliest, quick_way):
                self.assert_error(InvalidMinute, [value], call, TRIO, 0, 1, value)

    def test_by_name_and_plain(self):
        self.assert_by_name(staircase, plan=TRIO, stop=0, goal=2)
        self.assert_by_name(earliest, plan=TRIO, stop=0, goal=2, minute=3)
        self.assert_by_name(quick_way, plan=TRIO, stop=0, goal=2, minute=3)
        self.assert_by_name(staircases, plan=TRIO)
        self.assert_by_name(are_staircases, plan=TRIO, value=staircases(TRIO))
        own = put_part(TRIO, "trips", (("trip", Few.NONE, (10,)), ("trip", Few.ONE, (18,)), ("trip", Few.ONE, (30,))))
        self.assert_same([(18, 23), (30, 35)], staircase(own, Few.ONE, Few.TWO))
        self.assert_same(23, earliest(own, Few.NONE, Few.TWO, Few.ONE))
        self.assert_same((0, 1, ("ride", 0, 1, ("ride", 1, 2, ("there",)))), quick_way(own, Few.NONE, Few.TWO, Few.ONE))
        self.assert_same(staircases(TRIO), staircases(own))
        self.assertIsNot(staircases(TRIO)[0][2], staircases(TRIO)[0][2])


class Alike(Case):
    def parting(self, plan, other):
        """All parting riders, by the definition, up to a minute behind all departures."""
        last = max(minute for own in (plan, other) for trip in own[3] for minute in trip[2]) + 2
        return [
            (stop, goal, minute) for stop, goal in pairs(plan) for minute in range(min(last, 2000))
            if soonest(plan, stop, goal, minute) != soonest(other, stop, goal, minute)
        ]

    def later(self, rng, plan):
        """The plan's riders in other trips: one trip is told to leave otherwise, as far as the rest lets it."""
        for _ in range(20):
            at = rng.randrange(len(plan[3]))
            trip = plan[3][at]
            move = rng.choice([-3, -2, -1, 1, 2, 3])
            told = tuple(minute + move for minute in trip[2])
            other = put_part(plan, "trips", plan[3][:at] + (("trip", trip[1], told),) + plan[3][at + 1:])
            if is_plan(other):
                return other
        return plan

    def test_small_plans(self):
        unlike = 0
        for number in range(45):
            plan = made(number, rides=6, remedies=False)
            other = self.later(random.Random(number), plan)
            known = self.parting(plan, other)
            unlike += known != []
            self.assert_told(known == [], are_same_for_riders, plan, other)
            self.assert_told(min(known, default=None), parting_rider, plan, other)
            self.assert_told(min(known, default=None), parting_rider, other, plan)
            last = max(minute for own in (plan, other) for trip in own[3] for minute in trip[2]) + 2
            for stop, goal in pairs(plan):
                for minute in range(last):
                    self.assertIs(is_parting_rider(plan, other, (stop, goal, minute)), (stop, goal, minute) in known)
        self.assertGreater(unlike, 15)

    def test_one_stair_more_than_the_other(self):
        plan = plan_of([((0, 1), (5,), ())], [(0, (10,)), (0, (1999,))], stops=2)
        other = plan_of([((0, 1), (5,), ())], [(0, (10,))], stops=2)
        self.assert_told((0, 1, 11), parting_rider, plan, other)
        self.assert_yes(is_parting_rider, plan, other, (0, 1, 1999))
        self.assert_no(is_parting_rider, plan, other, (0, 1, 10))
        self.assert_no(is_parting_rider, plan, other, (0, 1, 2000))
        # Who walks to 0 first must leave five minutes sooner.
        self.assert_yes(is_parting_rider, plan, other, (1, 0, 1994))
        self.assert_no(is_parting_rider, plan, other, (1, 0, 1995))

    def test_alike_with_other_trips_and_lines(self):
        plan = plan_of([((0, 1), (5,), ())], [(0, (10,))], stops=2)
        other = plan_of([((0, 1), (5,), ()), ((0, 1), (9,), ())], [(0, (10,)), (1, (8,))], stops=2, bounds=((3,), (2,)), budget=4)
        self.assert_told(True, are_same_for_riders, plan, other)
        self.assert_told(None, parting_rider, plan, other)
        self.assert_no(is_parting_rider, plan, other, (0, 1, 0))
        self.assert_told(True, are_same_for_riders, plan, plan)

    def test_values_of_all_kinds(self):
        slow = put_part(TRIO, "trips", (TRIO[3][0], ("trip", 1, (19,)), TRIO[3][2]))
        self.assert_yes(is_parting_rider, TRIO, slow, (0, 2, 0))
        self.assert_yes(is_parting_rider, TRIO, slow, (Few.NONE, Few.TWO, Few.ONE))
        for value in OTHERS + [[0, 2, 0], (0, 2), (0, 2, 0, 0), (0, 0, 0), (2, 2, 0), (0, 3, 0), (3, 0, 0), (-1, 2, 0), (0, 2, -1)]:
            self.assert_no(is_parting_rider, TRIO, slow, value)
        for path in ((0,), (1,), (2,)):
            for value in NO_INTEGERS:
                self.assert_no(is_parting_rider, TRIO, slow, put((0, 2, 0), path, value))

    def test_errors(self):
        two = plan_of([((0, 1), (5,), ())], [(0, (10,))], stops=2)
        for call, more in ((are_same_for_riders, ()), (parting_rider, ()), (is_parting_rider, (None,))):
            for value in OTHERS + [UNSOUND]:
                self.assert_error(InvalidPlan, [value], call, value, None, *more)
                self.assert_error(InvalidPlan, [value], call, two, value, *more)
            with self.assertRaises(UnlikeStops):
                call(two, TRIO, *more)
            with self.assertRaises(UnlikeStops):
                call(TRIO, two, *more)

    def test_by_name(self):
        slow = put_part(TRIO, "trips", (TRIO[3][0], ("trip", 1, (19,)), TRIO[3][2]))
        self.assert_by_name(are_same_for_riders, plan=TRIO, other=slow)
        self.assert_by_name(parting_rider, plan=TRIO, other=slow)
        self.assert_by_name(is_parting_rider, plan=TRIO, other=slow, value=(0, 2, 0))


if __name__ == "__main__":
    unittest.main()
