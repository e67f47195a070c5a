"""[51] to [54]: least courses, what can break, how late a ride can be, what more delay does."""

import itertools
import unittest

from citylines.books import book, is_book
from citylines.courses import breakable, greatest_late, is_breaking, least_course
from citylines.days import day
from citylines.errors import InvalidPlan, InvalidRide, TooMany
from citylines.plans import with_budget
from helpers import Case, Few, NO_INTEGERS, OTHERS
from reckon import Reckoned, all_rides, courses, least_of
from some_plans import ROWS_4000, ROWS_4001, STEPS_40000, STEPS_40001, made, put_part, wide
from told_plans import CASE_A, CASE_B, CASE_C, CASE_D, CHARGED, SLACK, case_e, overview, plan_of

UNSOUND = put_part(CASE_B, "promises", (("driven", 1, 29),))


class Against(Case):
    """Against all courses, gone through."""

    def assert_courses(self, plan):
        days = [(course, Reckoned(plan, course)) for course in courses(plan)]
        broken = [{promise for _, promise, _ in known.breaks} for _, known in days]
        all_least = []
        for promise in range(len(plan[7])):
            all_least.append(least_of([course for (course, _), own in zip(days, broken) if promise in own]))
        self.assert_told(all_least, breakable, plan)
        least = least_of([course for (course, _), own in zip(days, broken) if own])
        self.assert_told(least, least_course, plan)
        self.assertEqual(least is None, book(plan) is not None)
        for (course, _), own in zip(days[:40], broken):
            self.assertIs(is_breaking(plan, course), bool(own))
            self.assertIs(is_breaking(plan, tuple(course)), bool(own))
        for position, ride in enumerate(all_rides(plan[3])):
            if ride in days[0][1].off:
                self.assert_told(None, greatest_late, plan, position)
                continue
            late = [known.come[ride] - known.told(ride) - known.least(ride) for _, known in days]
            course = least_of([course for (course, _), own in zip(days, late) if own == max(late)])
            self.assert_told((max(late), course), greatest_late, plan, position)
        return least is not None

    def test_small_plans(self):
        self.assertGreater(sum(self.assert_courses(made(number, rides=5)) for number in range(130)), 20)

    def test_batteries_spares_and_remedies(self):
        for number in range(200, 260):
            self.assert_courses(made(number, rides=5, battery=True, spares=True, remedies=True))

    def test_the_documents_plans(self):
        for plan in (CASE_A, CASE_B, CASE_C, CASE_D, CHARGED, SLACK, case_e(None), case_e((1, 1, 2))):
            self.assert_courses(plan)

    def test_no_budget_no_promises_no_meets(self):
        for number in range(20):
            plan = made(number, rides=5, remedies=False)
            still = with_budget(plan, 0)
            self.assert_told(None, least_course, still)
            self.assert_told([None] * len(plan[7]), breakable, still)
            self.assert_courses(still)
            bare = put_part(plan, "promises", ())
            self.assert_told(None, least_course, bare)
            self.assert_told([], breakable, bare)
            self.assert_courses(bare)

    def test_all_heard(self):
        plan = overview(promises=(("leaves", 1, 0, 2), ("meets", 0), ("ends", 0, 3)))
        for late, expected in ((0, []), (3, []), (4, [0, 2]), (5, [1, 2])):
            heard = put_part(plan, "heard", (late, 0))
            told = [[late, 0] if promise in expected else None for promise in range(3)]
            self.assert_told(told, breakable, heard)
            self.assert_told([late, 0] if expected else None, least_course, heard)
            self.assert_told((late, [late, 0]), greatest_late, heard, 0)

    def test_behind_what_is_heard_come_noughts(self):
        # What breaks at the first ride breaks in each course; the second one is heard, too, and the third one is 0.
        plan = plan_of(
            [((0, 1), (5,), ())], [(0, (0,)), (0, (20,)), (0, (40,))], bounds=((9,), (9,), (9,)), budget=12,
            promises=(("ends", 0, 2), ("ends", 2, 3)), heard=(3, 5),
        )
        self.assert_told([[3, 5, 0], [3, 5, 4]], breakable, plan)
        self.assert_told([3, 5, 0], least_course, plan)
        self.assert_told((3, [3, 5, 0]), greatest_late, plan, 0)
        self.assert_told((4, [3, 5, 4]), greatest_late, plan, 2)
        self.assert_yes(is_breaking, plan, [3, 5, 4])
        self.assert_no(is_breaking, plan, [3, 4, 0])

    def test_the_first_one_of_as_few_minutes(self):
        plan = plan_of(
            [((0, 1), (5,), ())], [(0, (0,)), (0, (20,)), (0, (40,))], bounds=((9,), (9,), (9,)), budget=9,
            promises=(("ends", 0, 3), ("ends", 2, 3), ("ends", 1, 3)),
        )
        self.assert_told([[4, 0, 0], [0, 0, 4], [0, 4, 0]], breakable, plan)
        self.assert_told([0, 0, 4], least_course, plan)

    def test_plans_that_a_promise_is_alone_in(self):
        # The least course of a promise is that of the plan with this one alone; and those without any have a book.
        for number in range(60):
            plan = made(number, rides=5)
            for promise, course in zip(plan[7], breakable(plan)):
                self.assertEqual(course, least_course(put_part(plan, "promises", (promise,))))
            kept = tuple(promise for promise, course in zip(plan[7], breakable(plan)) if course is None)
            self.assertIsNotNone(book(put_part(plan, "promises", kept)))

    def test_the_paper_of_the_least(self):
        for number in range(80):
            plan = made(number, rides=5, remedies=False)
            course = least_course(plan)
            if course is not None and sum(course) > 0:
                less = with_budget(plan, sum(course) - 1)
                self.assertTrue(is_book(less, book(less)))


class Values(Case):
    def test_no_plans(self):
        for value in OTHERS + [UNSOUND]:
            self.assert_error(InvalidPlan, [value], least_course, value)
            self.assert_error(InvalidPlan, [value], breakable, value)
            self.assert_error(InvalidPlan, [value], is_breaking, value, None)
            self.assert_error(InvalidPlan, [value], greatest_late, value, None)

    def test_no_rides(self):
        for value in NO_INTEGERS + [-1, 2, 10 ** 29]:
            self.assert_error(InvalidRide, [value], greatest_late, overview(), value)

    def test_values_that_are_no_breaking_course(self):
        for value in OTHERS + [[4], [4, 0, 0], [4, 1], [True, 0], [4, False], [-4, 0], ["4", 0], {4: 0, 0: 0}]:
            self.assert_no(is_breaking, overview(), value)
        plan = plan_of([((0, 1), (5,), ())], [(0, (0,))], bounds=((9,),), budget=9, promises=(("ends", 0, 0),))
        self.assert_yes(is_breaking, plan, [1])
        self.assert_yes(is_breaking, plan, [Few.ONE])
        self.assert_no(is_breaking, plan, [True])
        self.assert_no(is_breaking, plan, [Few.NONE])

    def test_by_name_and_plain(self):
        self.assert_by_name(least_course, plan=overview())
        self.assert_by_name(breakable, plan=overview())
        self.assert_by_name(is_breaking, plan=overview(), value=[4, 0])
        self.assert_by_name(greatest_late, plan=overview(), ride=1)
        plan = put_part(overview(wait=0), "promises", (("ends", Few.NONE, Few.NONE),))
        plan = put_part(plan, "heard", (Few.TWO,))
        self.assert_same([2, 0], least_course(plan))
        self.assert_same([[2, 0]], breakable(plan))
        self.assert_same((2, [2, 0]), greatest_late(plan, Few.NONE))

    def test_rides_promises_and_meets_that_are_taken_away(self):
        plan = overview(promises=(("leaves", 1, 0, 2), ("meets", 0), ("ends", 1, 0), ("long", 1, 7)))
        self.assert_told([[4, 0], [5, 0], [2, 0], None], breakable, plan)
        self.assert_told([None, None, None, None], breakable, put_part(plan, "remedies", ((0, ("free", 0)),)))
        dropped = put_part(plan, "remedies", ((0, ("drop", 1)),))
        self.assert_told([None] * 4, breakable, dropped)
        self.assert_told(None, greatest_late, dropped, 1)
        self.assert_told((5, [5, 0]), greatest_late, dropped, 0)
        self.assert_told(None, least_course, dropped)
        fed = put_part(plan, "remedies", ((0, ("drop", 0)),))
        self.assert_told([None] * 4, breakable, fed)
        self.assert_told(None, greatest_late, fed, 0)
        self.assert_told((0, [0, 0]), greatest_late, fed, 1)


class Turns(Case):
    """[54]: a course breaks a promise, and a wider one keeps it."""

    def test_the_cases(self):
        for plan, breaks, wider in (
            (CASE_A, [2, 0, 0], [2, 3, 0]), (CASE_B, [0, 0, 3], [3, 0, 3]), (CASE_C, [4, 0], [5, 0]),
            (CASE_D, [3, 0, 0, 0, 0], [3, 3, 0, 0, 0]),
        ):
            self.assertEqual(1, len(day(plan, breaks)[3]))
            self.assertEqual((), day(plan, wider)[3])
            self.assertTrue(all(one <= other for one, other in zip(breaks, wider)))
            self.assert_yes(is_breaking, plan, breaks)
            self.assert_no(is_breaking, plan, wider)
            self.assertIsNotNone(least_course(plan))

    def test_one_spare_more_and_a_promise_breaks(self):
        self.assert_no(is_breaking, case_e(None), [8, 6, 0])
        self.assert_no(is_breaking, case_e((0, 1, 2)), [8, 6, 0])
        self.assert_yes(is_breaking, case_e((1, 1, 2)), [8, 6, 0])

    def test_without_news_and_batteries_wider_is_later(self):
        for number in range(40):
            plan = made(number, rides=5, battery=False, remedies=False)
            plan = put_part(plan, "meets", tuple(meet[:6] + ("blind",) for meet in plan[6]))
            days = [(course, day(plan, course)) for course in courses(plan)]
            for (one, told), (other, wide_day) in itertools.islice(itertools.product(days, days), 900):
                if all(less <= more for less, more in zip(one, other)):
                    for times, later in zip(told[1], wide_day[1]):
                        self.assertLessEqual(times[0], later[0])
                        self.assertLessEqual(times[1], later[1])


class Limits(Case):
    def calls(self):
        return ((least_course,), (breakable,), (greatest_late, 0))

    def test_both_limits(self):
        for what, limit, rows in (("standings", 4000, ROWS_4001), ("steps", 40000, STEPS_40001)):
            for promises in ((), (("ends", 0, 0),)):
                plan = wide(*rows, promises=promises)
                for call, *more in self.calls():
                    self.assert_error(TooMany, [what, limit], call, plan, *more)
                if promises:
                    self.assert_yes(is_breaking, plan, [1] + [0] * len(rows[0]))

    def test_just_as_many(self):
        for bounds, budget in (ROWS_4000, STEPS_40000):
            plan = wide(bounds, budget, promises=(("ends", 0, bounds[0] - 1), ("ends", 1, bounds[1])))
            first = [bounds[0]] + [0] * len(bounds)
            self.assertEqual([first, None], breakable(plan))
            self.assertEqual(first, least_course(plan))
            self.assertEqual((bounds[0], first), greatest_late(plan, 0))

    def test_a_ride_that_is_not_run_is_told_at_once(self):
        plan = wide((1, 1, 6, 6, 6, 6), 17)
        self.assertRaises(TooMany, greatest_late, plan, 0)
        # Dropped is the last of the feeders ahead, so that there are rows enough without it.
        dropped = put_part(wide((1, 6, 6, 6, 6, 1), 16), "remedies", ((0, ("drop", 5)),))
        self.assertRaises(TooMany, greatest_late, dropped, 0)
        self.assertIsNone(greatest_late(dropped, 5))


if __name__ == "__main__":
    unittest.main()
