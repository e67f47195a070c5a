"""[31] to [39], [81]: days against a reckoning of the tests' own; the examples of the document by days worked out."""

import random
import unittest

from citylines.days import day, is_course, reasons, told_day
from citylines.errors import InvalidCourse, InvalidPlan, InvalidRide
from helpers import Case, Few, NO_INTEGERS, OTHERS
from reckon import Reckoned, all_rides, courses, let_bounds, reckoned_day
from some_plans import made, put_part
from told_plans import (
    CASE_A, CASE_B, CASE_C, CASE_D, CHARGED, RICH, TWO_FEEDERS, alone, case_e, overview, plan_of,
)

UNSOUND = put_part(CASE_B, "promises", (("driven", 1, 29),))
NOTHING = plan_of([((0, 1), (5,), ())], [(0, (3,))])


def remedied(plan, *remedies):
    return put_part(plan, "remedies", remedies)


class Courses(Case):
    def test_all_courses_and_no_others(self):
        for number in range(30):
            plan = made(number, rides=4)
            found = courses(plan)
            self.assertTrue(found)
            for course in found:
                self.assert_yes(is_course, plan, course)
                self.assert_yes(is_course, plan, tuple(course))
            rng = random.Random(number)
            for _ in range(60):
                course = [rng.randint(0, 3) for _ in found[0]]
                self.assertIs(is_course(plan, course), course in found)

    def test_bounds_budget_and_length(self):
        plan = plan_of([((0, 1), (5,), ())], [(0, (at,)) for at in (0, 10, 20)], bounds=((3,), (0,), (9,)), budget=10)
        for course in ([0, 0, 0], [3, 0, 7], [1, 0, 9], [0, 0, 9]):
            self.assert_yes(is_course, plan, course)
        for course in ([4, 0, 0], [0, 1, 0], [0, 0, 10], [3, 0, 8], [2, 0, 9], [0, 0], [0, 0, 0, 0], [], [-1, 0, 0], [0, 0, -1]):
            self.assert_no(is_course, plan, course)

    def test_values_of_other_kinds(self):
        for value in OTHERS:
            self.assert_no(is_course, overview(), value)
        for value in NO_INTEGERS:
            self.assert_no(is_course, overview(), [value, 0])
            self.assert_no(is_course, overview(), [0, value])
        self.assert_no(is_course, overview(), {0: 0, 1: 0})
        self.assert_no(is_course, overview(), "00")
        self.assert_yes(is_course, overview(), [Few.TWO, Few.NONE])

    def test_what_is_heard(self):
        plan = put_part(overview(), "heard", (3,))
        self.assert_yes(is_course, plan, [3, 0])
        for course in ([2, 0], [4, 0], [0, 0]):
            self.assert_no(is_course, plan, course)
        self.assert_no(is_course, put_part(overview(), "heard", (3, 0)), [2, 0])

    def test_rides_that_are_not_run(self):
        plan = plan_of([((0, 1, 2), (5, 5), (0,)), ((1, 3), (5,), ())], [(0, (0, 5)), (1, (9,))], bounds=((3, 3), (3,)), budget=9)
        self.assert_yes(is_course, plan, [3, 3, 3])
        cut = remedied(plan, (0, ("cut", 0, 0)))
        self.assert_yes(is_course, cut, [3, 0, 3])
        self.assert_no(is_course, cut, [0, 1, 0])
        dropped = remedied(plan, (0, ("drop", 0)))
        self.assert_yes(is_course, dropped, [0, 0, 3])
        self.assert_no(is_course, dropped, [1, 0, 0])

    def test_errors(self):
        for value in OTHERS + [UNSOUND]:
            for call in (is_course, day):
                self.assert_error(InvalidPlan, [value], call, value, [0, 0])
            self.assert_error(InvalidPlan, [value], told_day, value)
            self.assert_error(InvalidPlan, [value], reasons, value, None, None)
        for value in OTHERS + [[6, 0], [0, 1], [0], [0, 0, 0], [True, 0]]:
            self.assert_error(InvalidCourse, [value], day, overview(), value)
            self.assert_error(InvalidCourse, [value], reasons, overview(), value, None)
        for value in NO_INTEGERS + [-1, 2, 10 ** 29]:
            self.assert_error(InvalidRide, [value], reasons, overview(), [0, 0], value)

    def test_by_name(self):
        plan = overview()
        self.assert_by_name(is_course, plan=plan, value=[4, 0])
        self.assert_by_name(day, plan=plan, course=[4, 0])
        self.assert_by_name(told_day, plan=plan)
        self.assert_by_name(reasons, plan=plan, course=[4, 0], ride=1)


class Against(Case):
    """What the program tells, against the tests' own reckoning."""

    def assert_days(self, plan, some):
        for course in some:
            reckoned = Reckoned(plan, course)
            self.assert_told(reckoned.day(), day, plan, course)
            self.assert_same(reckoned.day(), day(plan, tuple(course)))
            for position in range(len(course)):
                self.assert_told(reckoned.reasons(position), reasons, plan, course, position)

    def test_small_plans(self):
        for number in range(160):
            plan = made(number)
            some = courses(plan)
            self.assert_days(plan, random.Random(number).sample(some, min(6, len(some))))

    def test_larger_plans(self):
        for number in range(40):
            plan = made(number, rides=12, bound=5, budget=9)
            bounds, rng = let_bounds(plan), random.Random(number)
            for _ in range(4):
                course = list(plan[10])
                for bound in bounds[len(course):]:
                    course.append(rng.randint(0, min(bound, plan[8][1] - sum(course))))
                self.assert_days(plan, [course])

    def test_batteries_with_spares_and_remedies(self):
        for number in range(60):
            plan = made(number, battery=True, spares=True, remedies=True)
            some = courses(plan)
            self.assert_days(plan, random.Random(number).sample(some, min(5, len(some))))

    def test_plans_of_the_document(self):
        for plan in (CHARGED, TWO_FEEDERS, CASE_A, CASE_B, CASE_C, CASE_D, case_e(None), case_e((1, 1, 2)), RICH):
            self.assert_days(plan, random.Random(1).sample(courses(plan), min(25, len(courses(plan)))))

    def test_told_days(self):
        for number in range(60):
            plan = made(number)
            bare = plan[:9] + (None, (), ())
            self.assert_told(reckoned_day(bare, [0] * len(all_rides(plan[3]))), told_day, plan)
            _, _, lines, trips, *_ = plan
            for (trip, hop), (left, come) in zip(all_rides(trips), told_day(plan)[1], strict=True):
                self.assertEqual(trips[trip][2][hop], left)
                self.assertEqual(left + lines[trips[trip][1]][2][hop], come)

    def test_nothing_sooner_than_told(self):
        for number in range(40):
            plan = made(number)
            for course in courses(plan)[::5]:
                for told, times in zip(told_day(plan)[1], day(plan, course)[1]):
                    if times != (None, None):
                        self.assertGreaterEqual(times, told)
                        self.assertGreaterEqual(times[1], told[1])

    def test_one_ride(self):
        self.assert_told(("day", ((3, 8),), (), ()), day, NOTHING, [0])
        self.assert_told(([("told",)], [("delay",)]), reasons, NOTHING, [0], 0)

    def test_plain(self):
        self.assert_same(("day", ((0, 12), (13, 20)), (True,), ()), day(overview(), [Few.TWO, Few.NONE]))


class Examples(Case):
    def test_the_overview(self):
        for late, taker in ((0, 12), (1, 12), (2, 13), (3, 14), (4, 15), (5, 12)):
            breaks = ((1, 0, 1),) if late == 4 else ()
            expected = ("day", ((0, 10 + late), (taker, taker + 7)), (late < 5,), breaks)
            self.assert_told(expected, day, overview(), [late, 0])
        self.assert_told(([("told",)], [("delay",)]), reasons, overview(), [1, 0], 1)
        self.assert_told(([("meet", 0)], [("delay",)]), reasons, overview(), [2, 0], 1)

    def test_blind_waits_in_vain(self):
        for late, taker in ((4, 15), (5, 15)):
            self.assertEqual(((0, 10 + late), (taker, taker + 7)), day(overview(way="blind"), [late, 0])[1])

    def test_by_how_much_a_meet_is_missed(self):
        # The walk is counted in.
        plan = overview(promises=(("meets", 0),))
        self.assert_told(("day", ((0, 15), (12, 19)), (False,), ((1, 0, 4),)), day, plan, [5, 0])
        plan = overview(wait=0, promises=(("meets", 0),))
        self.assert_told(("day", ((0, 12), (12, 19)), (False,), ((1, 0, 1),)), day, plan, [2, 0])

    def test_two_feeders(self):
        # Neither has left at 14; the one at 13 and the other one at 10; and both just then.
        both = day(TWO_FEEDERS, [8, 8, 0, 0, 0])
        self.assertEqual(((15, 17), (15, 17), (14, 21)), both[1][2:])
        self.assertEqual((False, False), both[2])
        self.assertEqual([("meet", 0), ("meet", 1)], reasons(TWO_FEEDERS, [8, 8, 0, 0, 0], 4)[0])
        one = day(TWO_FEEDERS, [6, 3, 4, 3, 0])
        self.assertEqual(((13, 19), (10, 15), (16, 23)), one[1][2:])
        self.assertEqual((False, True), one[2])
        self.assertEqual([("meet", 1)], reasons(TWO_FEEDERS, [6, 3, 4, 3, 0], 4)[0])

    def test_a_delay_more_and_three_minutes_sooner(self):
        self.assertEqual(((10, 20), (20, 21), (40, 45), (50, 60)), day(CHARGED, [0, 0, 0, 0, 0])[1][1:])
        self.assertEqual(((10, 20), (20, 21), (40, 45), (53, 63)), day(CHARGED, [3, 0, 0, 0, 0])[1][1:])
        self.assertEqual(((10, 24), (24, 25), (40, 45), (50, 60)), day(CHARGED, [3, 4, 0, 0, 0])[1][1:])

    def test_case_a(self):
        self.assertEqual(((12, 22), (False, True), ((2, 0, 2),)), self.last(CASE_A, [2, 0, 0]))
        self.assertEqual(((15, 25), (True, True), ()), self.last(CASE_A, [2, 3, 0]))

    def last(self, plan, course):
        found = day(plan, course)
        return (found[1][-1],) + found[2:]

    def test_case_b(self):
        self.assertEqual(((30, 43), (), ((2, 0, 1),)), self.last(CASE_B, [0, 0, 3]))
        self.assertEqual((13, 23), day(CASE_B, [3, 0, 3])[1][1])
        self.assertEqual(((30, 43), (), ()), self.last(CASE_B, [3, 0, 3]))

    def test_case_c(self):
        self.assertEqual(((15, 22), (True,), ((1, 0, 1),)), self.last(CASE_C, [4, 0]))
        self.assertEqual(((12, 19), (False,), ()), self.last(CASE_C, [5, 0]))

    def test_case_d(self):
        self.assertEqual(((53, 63), (True,), ((4, 0, 1),)), self.last(CASE_D, [3, 0, 0, 0, 0]))
        self.assertEqual(((50, 60), (True,), ()), self.last(CASE_D, [3, 3, 0, 0, 0]))
        self.assertEqual(((23, 33), (35, 45)), day(CASE_D, [3, 3, 0, 0, 0])[1][2:4])

    def test_case_e(self):
        self.assertEqual(((20, 30), (True,), ()), self.last(case_e(None), [8, 6, 0]))
        self.assertEqual(((15, 25), (False,), ((2, 0, 3),)), self.last(case_e((1, 1, 2)), [8, 6, 0]))


class Vehicles(Case):
    """[32], [36]: spares, remedies' vehicles, and the levels behind them."""

    def plan(self, spares, *remedies, late=9):
        """Three trips of one vehicle, each 10 minutes behind; a second vehicle with two more, told a little later."""
        return plan_of(
            [((0, 1), (10,), ()), ((1, 0), (10,), ()), ((2, 3), (10,), ()), ((3, 2), (10,), ())],
            [(0, (0,)), (1, (10,)), (0, (20,)), (2, (1,)), (3, (11,))], blocks=alone((0, 1, 2), (3, 4)),
            bounds=((late,), (0,), (0,), (late,), (0,)), budget=18, spares=spares,
        )[:11] + (remedies,)

    def lefts(self, plan, course):
        return [left for left, _ in day(plan, course)[1]]

    def test_one_sets_out_only_behind_late(self):
        # The rides stand so: 0, 3, 1, 4, 2.
        for late, left in ((2, 12), (3, 13), (4, 14), (5, 14), (9, 14)):
            self.assertEqual([0, 1, left, 11, max(20, left + 10)], self.lefts(self.plan((1, 3, 1)), [late, 0, 0, 0, 0]))

    def test_it_sets_out_in_vain(self):
        # The first one sets out at 15, and would be there at 21 only; so none is left for the other vehicle.
        self.assertEqual([0, 1, 18, 20, 28], self.lefts(self.plan((1, 5, 6)), [8, 9, 0, 0, 0]))
        self.assertEqual([0, 1, 18, 17, 28], self.lefts(self.plan((2, 5, 1, ))[:9] + ((2, 5, 6), (), ()), [8, 6, 0, 0, 0]))

    def test_as_many_as_there_are(self):
        # One is there when it is told; the next trip of the same vehicle is in time then.
        for many, expected in ((0, [0, 1, 19, 20, 29]), (1, [0, 1, 10, 20, 20]), (2, [0, 1, 10, 11, 20])):
            self.assertEqual(expected, self.lefts(self.plan((many, 0, 0)), [9, 9, 0, 0, 0]))
        self.assertEqual([0, 1, 19, 20, 29], self.lefts(self.plan(None), [9, 9, 0, 0, 0]))

    def test_a_remedys_vehicle(self):
        for access, left in ((0, 10), (4, 14), (8, 18), (9, 19), (60, 19)):
            plan = self.plan(None, (0, ("spare", 1, access)))
            self.assertEqual([0, 1, left, 11, max(20, left + 10)], self.lefts(plan, [9, 0, 0, 0, 0]))
        plan = self.plan(None, (0, ("spare", 1, 5)), (0, ("spare", 1, 2)), (0, ("spare", 1, 7)))
        self.assertEqual([0, 1, 12, 11, 22], self.lefts(plan, [9, 0, 0, 0, 0]))
        self.assertEqual([0, 1, 11, 11, 21], self.lefts(plan, [1, 0, 0, 0, 0]))

    def test_a_remedys_vehicle_is_none_of_the_spares(self):
        # It is there at 13, which is not above told and late: no spare sets out, and one is left for the other vehicle.
        plan = self.plan((1, 3, 0), (0, ("spare", 1, 3)))
        self.assertEqual([0, 1, 13, 14, 23], self.lefts(plan, [9, 9, 0, 0, 0]))
        plan = self.plan((1, 2, 0), (0, ("spare", 1, 3)))
        self.assertEqual([0, 1, 12, 20, 22], self.lefts(plan, [9, 9, 0, 0, 0]))

    def charged(self, spares=None, remedies=()):
        """A battery that is soon empty: 10 of 10 for the first trip, 9 for the second one, 5 for the third one."""
        return plan_of(
            [((0, 1), (10,), ()), ((1, 0), (10,), ())], [(0, (0,)), (1, (20,)), (0, (35,))],
            blocks=(("block", (0, 1, 2), (0, 0), (10, (10, 9, 5), 1)),), bounds=((9,), (0,), (0,)), budget=9, spares=spares,
            remedies=remedies,
        )

    def test_a_full_vehicle(self):
        # By the own vehicle the second trip is ready at 24, the third one at 39; by a full one at 20, and with 1 left at 34.
        self.assertEqual([0, 24, 39], self.lefts(self.charged(), [5, 0, 0]))
        for plan in (self.charged((1, 0, 0)), self.charged(remedies=((0, ("spare", 1, 0)),))):
            self.assertEqual([0, 20, 35], self.lefts(plan, [5, 0, 0]))
        self.assertEqual([0, 24, 39], self.lefts(self.charged((1, 0, 4)), [5, 0, 0]))
        self.assertEqual([0, 23, 37], self.lefts(self.charged((1, 0, 3)), [5, 0, 0]))
        self.assertEqual([0, 24, 39], self.lefts(self.charged(remedies=((0, ("spare", 1, 4)),)), [5, 0, 0]))
        self.assertEqual([0, 23, 37], self.lefts(self.charged(remedies=((0, ("spare", 1, 3)),)), [5, 0, 0]))


class NotRun(Case):
    """[38], [81]: dropped and cut trips, gone meets and promises."""

    def plan(self, *remedies, promises=()):
        """Three trips of a line, each of two hops, two minutes apart; the second one feeds a trip of another line."""
        return plan_of(
            [((0, 1, 2), (5, 5), (0,)), ((2, 3), (5,), ())],
            [(0, (0, 5)), (0, (10, 15)), (0, (11, 20)), (1, (26,))],
            meets=(("meet", 1, 1, 3, 0, 5, "blind"), ("meet", 0, 0, 3, 0, 5, "blind")), promises=promises,
            bounds=((0, 0), (9, 9), (0, 0), (0,)), budget=12, remedies=remedies,
        )

    def times(self, plan, course):
        return dict(zip(all_rides(plan[3]), day(plan, course)[1], strict=True))

    def test_the_last_one_ahead_that_runs_the_hop(self):
        # The sequence: (0, 0), (0, 1), (1, 0), (2, 0), (1, 1), (2, 1), (3, 0).
        plan = self.plan()
        times = self.times(plan, [0, 0, 9, 0, 0, 0, 0])
        self.assertEqual(((11, 25), (25, 30), (29, 34)), (times[2, 0], times[2, 1], times[3, 0]))
        cut = self.plan((0, ("cut", 1, 0)))
        times = self.times(cut, [0, 0, 9, 0, 0, 0, 0])
        self.assertEqual(((11, 25), (None, None), (25, 30)), (times[2, 0], times[1, 1], times[2, 1]))
        self.assertEqual([True, None], [day(some, [0, 0, 9, 0, 0, 0, 0])[2][0] for some in (plan, cut)])
        dropped = self.plan((0, ("drop", 1)))
        times = self.times(dropped, [0] * 7)
        self.assertEqual(((None, None), (None, None), (11, 16), (20, 25)), tuple(times[ride] for ride in ((1, 0), (1, 1), (2, 0), (2, 1))))
        self.assertEqual(([], []), reasons(dropped, [0] * 7, 2))

    def test_gone_meets_and_promises(self):
        promises = (
            ("meets", 0), ("meets", 1), ("leaves", 1, 0, 0), ("leaves", 1, 1, 0), ("ends", 1, 0), ("ends", 0, 0), ("long", 1, 10),
            ("driven", 1, 10),
        )
        course = [0, 0, 5, 0, 7, 0, 0]
        cases = (
            ((), (False, True), {0, 3, 4, 6, 7}), (((0, ("free", 0)),), (None, True), {3, 4, 6, 7}),
            (((0, ("wait", 0, 60)),), (True, True), {3, 4, 6, 7}),
            (((0, ("free", 0)), (0, ("free", 1))), (None, None), {3, 4, 6, 7}),
        )
        for remedies, made_meets, broken in cases:
            found = day(self.plan(*remedies, promises=promises), course)
            self.assertEqual(made_meets, found[2])
            self.assertEqual(broken, {promise for _, promise, _ in found[3]})
        # Cut, the piece ends behind its first hop, of 5 minutes and 6 more.
        for remedy, late, broken in ((("cut", 1, 0), 6, ((2, 6, 1), (2, 7, 1))), (("cut", 1, 0), 5, ()), (("drop", 1), 0, ())):
            found = day(self.plan((0, remedy), promises=promises), [0, 0, late, 0, 0, 0, 0])
            self.assertEqual((None, True), found[2])
            self.assertEqual(broken, found[3])

    def test_a_cut_piece_ends_with_its_last_ride_that_is_run(self):
        promises = (("long", 0, 20), ("driven", 0, 20))
        plan = plan_of(
            [((0, 1, 2), (10, 10), (0,))], [(0, (0, 10))], promises=promises, bounds=((9, 9),), budget=18,
        )
        self.assertEqual(((1, 0, 2), (1, 1, 2)), day(plan, [1, 1])[3])
        cut = put_part(plan, "remedies", ((0, ("cut", 0, 0)),))
        self.assertEqual((), day(cut, [9, 0])[3])
        tight = put_part(plan, "promises", (("long", 0, 20),))
        self.assertEqual(((1, 0, 9),), day(tight, [9, 0])[3])

    def test_spans_break_at_the_ends_of_pieces_alone(self):
        # Behind its first hop the piece has been under way 19 minutes, too, but it does not end there.
        plan = plan_of(
            [((0, 1, 2), (10, 2), (0,))], [(0, (0, 10))], promises=(("long", 0, 12), ("driven", 0, 12)), bounds=((9, 0),), budget=9,
        )
        self.assertEqual(((1, 0, 9), (1, 1, 9)), day(plan, [9, 0])[3])
        parted = put_part(plan, "duties", (("duty", ((0, 0, 0),), ()), ("duty", ((0, 1, 1),), ())))
        self.assertEqual(((0, 0, 7), (0, 1, 7)), day(parted, [9, 0])[3])

    def test_a_heard_ride_becomes_the_last_of_its_piece(self):
        # The stretch began at 0; at the end of the first hop the second piece has been 35 minutes under way, and 5 more.
        plan = plan_of(
            [((0, 1), (10,), ()), ((1, 2, 3), (10, 10), (0,))], [(0, (0,)), (1, (10, 20))],
            duties=(("duty", ((0, 0, 0), (1, 0, 1)), (("walk", 0),)),), promises=(("driven", 0, 30),),
            bounds=((5,), (5, 0)), budget=9, heard=(2, 2),
        )
        self.assertEqual(((2, 0, 4),), day(plan, [2, 2, 0])[3])
        cut = put_part(plan, "remedies", ((2, ("cut", 1, 0)),))
        self.assertEqual(("day", ((0, 12), (12, 24), (None, None)), (), ()), day(cut, [2, 2, 0]))

    def test_waits_behind_one_another(self):
        plan = overview(promises=(("meets", 0),))
        for remedies, left in (
            ((), 15), (((0, ("wait", 0, 2)),), 12), (((0, ("wait", 0, 2)), (0, ("wait", 0, 3))), 15),
            (((0, ("wait", 0, 9)), (1, ("wait", 0, 1))), 12), (((0, ("free", 0)),), 12), (((0, ("wait", 0, 0)),), 12),
        ):
            heard = put_part(plan, "heard", (4,))
            found = day(remedied(heard, *remedies), [4, 0])
            self.assertEqual(left, found[1][1][0])
            self.assertEqual((left == 15,) if not remedies or remedies[0][1][0] != "free" else (None,), found[2])


class Reasons(Case):
    def test_several_at_once(self):
        # The second trip of the line, with its own vehicle, its driver and the trip ahead, all at 14.
        plan = plan_of(
            [((0, 1), (10,), ()), ((2, 3), (4,), ()), ((3, 0), (5,), ())],
            [(0, (0,)), (0, (14,)), (1, (5,)), (2, (4,))],
            blocks=(("block", (2,), (), None), ("block", (0,), (), None), ("block", (3, 1), (5,), None)),
            duties=(("duty", ((2, 0, 0), (1, 0, 0)), (("walk", 5),)), ("duty", ((0, 0, 0),), ()), ("duty", ((3, 0, 0),), ())),
            bounds=((9,), (0,), (9,), (9,)), budget=20,
        )
        self.assertEqual([(0, 0), (3, 0), (2, 0), (1, 0)], all_rides(plan[3]))
        self.assert_told(([("told",), ("block",), ("driver",)], [("delay",)]), reasons, plan, [0, 0, 0, 0], 3)
        self.assert_told(([("block",), ("driver",)], [("delay",)]), reasons, plan, [0, 2, 2, 0], 3)
        self.assert_told(([("driver",)], [("delay",)]), reasons, plan, [9, 0, 2, 0], 3)

    def test_apart(self):
        plan = plan_of([((0, 1), (10,), ())], [(0, (0,)), (0, (1,))], bounds=((9,), (9,)), budget=18)
        self.assert_told(([("told",), ("apart",)], [("delay",), ("apart",)]), reasons, plan, [0, 0], 1)
        self.assert_told(([("told",), ("apart",)], [("apart",)]), reasons, plan, [5, 4], 1)
        self.assert_told(([("told",), ("apart",)], [("delay",), ("apart",)]), reasons, plan, [5, 5], 1)
        self.assert_told(([("told",), ("apart",)], [("delay",)]), reasons, plan, [5, 6], 1)

    def test_own_behind_the_first_hop(self):
        plan = plan_of([((0, 1, 2), (5, 5), (2,))], [(0, (0, 9))], bounds=((9, 9),), budget=18)
        for late, why in ((0, ["told"]), (1, ["told"]), (2, ["told", "own"]), (3, ["own"])):
            self.assert_told(([(word,) for word in why], [("delay",)]), reasons, plan, [late, 0], 1)


if __name__ == "__main__":
    unittest.main()
