"""[71] to [76], [79]: ways, going by them, places, rows with a rider, surely by, late courses, sure books."""

import random
import unittest

from citylines.errors import InvalidCourse, InvalidMinute, InvalidPlan, InvalidWay, TooMany
from citylines.fields import first_standing, standing, step
from citylines.plans import with_budget
from citylines.riders import (
    arrival, is_late_course, is_sure_book, is_way, late_course, places, ridden, sure_book, surely_by,
)
from helpers import Case, Few, NO_INTEGERS, OTHERS, listed, part, paths, put
from reckon import all_rides, courses, least_of, let_bounds
from riding import Riding, is_route, made_route, made_way, parts
from some_plans import made, put_part, wide
from told_plans import CASE_B, TRIO, overview, plan_of

UNSOUND = put_part(CASE_B, "promises", (("driven", 1, 29),))
THERE = ("there",)
WAY = (0, 10, ("ride", 0, 1, ("ride", 1, 2, THERE)))
LATE = ("ride", 1, 2, THERE)


def deep_route(deep, end=THERE):
    """A route of walks to and fro between the stops 0 and 1, from 0, so deep."""
    route = end
    for at in range(deep - 1, 0, -1):
        route = ("walk", at % 2, route)
    return route


def many_parts(many):
    """A route of so many parts, shallow: "by" and "there"."""
    if many == 1:
        return THERE
    if many == 2:
        return ("walk", 1, THERE)
    return ("by", 9, many_parts((many - 1) // 2), many_parts(many - 1 - (many - 1) // 2))


class Ways(Case):
    def test_made_ones(self):
        for number in range(150):
            plan = made(number)
            self.assert_yes(is_way, plan, made_way(number, plan))

    def test_each_form_broken_alone(self):
        rng = random.Random(9)
        for number in range(60):
            plan = made(number)
            way = made_way(number, plan)
            for path in paths(way):
                old = part(way, path)
                if isinstance(old, int):
                    for new in (old + 1, old - 1, 0, 3, 1999, 2000, -1):
                        other = put(way, path, new)
                        told = 0 <= other[0] < len(plan[1][1]) and 0 <= other[1] <= 1999
                        self.assertIs(is_way(plan, other), told and is_route(plan, other[0], other[2]), other)
                    for new in NO_INTEGERS:
                        self.assert_no(is_way, plan, put(way, path, new))
                if isinstance(old, str):
                    for new in ("walk", "ride", "by", "there", "at", "", "Walk"):
                        self.assertIs(is_way(plan, put(way, path, new)), new == old)
                if isinstance(old, tuple):
                    for new in (old + (0,), old[:-1], list(old), listed(old), (), old + (THERE,)):
                        self.assert_no(is_way, plan, put(way, path, new))
            stop = rng.randrange(len(plan[1][1]))
            other = (stop, 0, way[2])
            self.assertIs(is_way(plan, other), is_route(plan, stop, way[2]))

    def test_values_of_all_kinds(self):
        for value in OTHERS:
            self.assert_no(is_way, TRIO, value)
            self.assert_no(is_way, TRIO, (0, 10, value))
            self.assert_no(is_way, TRIO, (0, 10, ("walk", 1, value)))
            self.assert_no(is_way, TRIO, (0, 10, ("by", 9, THERE, value)))
            self.assert_no(is_way, TRIO, (0, 10, ("by", 9, value, THERE)))
            self.assert_no(is_way, TRIO, (0, 10, (value,)))

    def test_stops_and_minutes(self):
        for stop, minute, told in ((0, 0, True), (2, 1999, True), (3, 0, False), (-1, 0, False), (0, 2000, False), (0, -1, False)):
            self.assertIs(is_way(TRIO, (stop, minute, THERE)), told)
            self.assertIs(is_way(TRIO, (0, 0, ("by", minute, THERE, THERE))), 0 <= minute <= 1999)
        for stop, told in ((0, False), (1, True), (2, True), (3, False), (-1, False)):
            self.assertIs(is_way(TRIO, (0, 0, ("walk", stop, THERE))), told)

    def test_rides(self):
        plan = plan_of([((0, 1, 2, 0, 3), (5, 5, 5, 5), (0, 0, 0)), ((3, 1), (5,), ())], [(0, (0, 5, 10, 15)), (1, (40,))])
        for line, stop, other, told in (
            (0, 0, 1, True), (0, 0, 2, True), (0, 0, 3, True), (0, 0, 0, False), (0, 1, 0, True), (0, 2, 1, False), (0, 3, 1, False),
            (1, 3, 1, True), (1, 1, 3, False), (1, 0, 1, False), (2, 0, 1, False), (-1, 3, 1, False), (0, 0, 4, False), (0, 0, -1, False),
        ):
            self.assertIs(is_way(plan, (stop, 0, ("ride", line, other, THERE))), told, (line, stop, other))

    def test_twelve_deep(self):
        for deep in range(1, 16):
            self.assertIs(is_way(TRIO, (0, 0, deep_route(deep))), deep <= 12)
            # The deeper one of both counts, and "by" is one deeper.
            for route in (("by", 5, deep_route(deep), THERE), ("by", 5, THERE, deep_route(deep))):
                self.assertIs(is_way(TRIO, (0, 0, route)), deep <= 11)
        ends = ("ride", 0, 1, THERE)
        for deep in range(1, 14, 2):
            self.assertIs(is_way(TRIO, (0, 0, deep_route(deep, ends))), deep <= 11)

    def test_rides_count_as_deep_and_as_parts(self):
        plan = plan_of([((0, 1), (5,), ()), ((1, 0), (5,), ())], [(0, (0,)), (1, (9,))])
        for many in range(1, 15):
            route = THERE
            for at in range(many - 1, 0, -1):
                route = ("ride", (at + 1) % 2, at % 2, route)
            self.assertEqual(many, len(parts(route)))
            self.assertIs(is_way(plan, (0, 0, route)), many <= 12)
            self.assertIs(is_way(plan, (0, 0, ("by", 9, THERE, route))), many <= 11)
            for more in range(16, 32):
                self.assertIs(is_way(plan, (0, 0, ("by", 9, route, many_parts(more)))), many <= 11 and many + more <= 29)
                self.assertIs(is_way(plan, (0, 0, ("by", 9, many_parts(more), route))), many <= 11 and many + more <= 29)

    def test_thirty_parts(self):
        for many in range(1, 45):
            self.assertEqual(many, len(parts(many_parts(many))))
            self.assertIs(is_way(TRIO, (0, 0, many_parts(many))), many <= 30)
        # A route that stands in itself twice, again and again, is told soon.
        route = THERE
        for _ in range(11):
            route = ("by", 5, route, route)
        self.assert_no(is_way, TRIO, (0, 0, route))
        for more in (many_parts(28), many_parts(29), many_parts(30)):
            self.assertIs(is_way(TRIO, (0, 0, ("by", 3, THERE, more))), len(parts(more)) <= 28)
            self.assertIs(is_way(TRIO, (0, 0, ("by", 3, more, THERE))), len(parts(more)) <= 28)


class Going(Case):
    def assert_riding(self, plan, course, way):
        riding = Riding(plan, course, way)
        self.assert_told(riding.arrival, arrival, plan, course, way)
        self.assert_told(riding.ridden if riding.arrival is not None else None, ridden, plan, course, way)
        self.assert_told(riding.places(), places, plan, course, way)
        return riding

    def test_against_the_tests_own_riders(self):
        stranded = 0
        for number in range(220):
            plan = made(number, rides=8)
            rng = random.Random(number)
            some = courses(plan)
            for course in rng.sample(some, min(3, len(some))):
                for way in range(2):
                    riding = self.assert_riding(plan, course, made_way(10 * number + way, plan))
                    stranded += riding.arrival is None
        self.assertGreater(stranded, 40)

    def test_the_example(self):
        for late, told in ((0, 23), (1, 23), (2, 24), (3, 25), (4, 35)):
            self.assertEqual(told, self.assert_riding(TRIO, [late, 0, 0], WAY).arrival)
        self.assert_told([(0, 0, 0), (1, 0, 0)], ridden, TRIO, [3, 0, 0], WAY)
        self.assert_told([(0, 0, 0), (2, 0, 0)], ridden, TRIO, (4, 0, 0), WAY)

    def test_just_in_time_and_a_minute_late(self):
        for minute, told in ((0, 15), (10, 15), (11, None), (1999, None)):
            self.assert_told(told, arrival, TRIO, [0, 0, 0], (0, minute, ("ride", 0, 1, THERE)))
        # From 1, without a change, the trips are taken at 18 and at 30.
        for minute, told in ((18, 23), (19, 35), (30, 35), (31, None)):
            self.assert_told(told, arrival, TRIO, [0, 0, 0], (1, minute, LATE))
        # Behind a ride the change counts, behind a walk not.
        plan = put_part(TRIO, "meets", ())
        self.assert_told(23, arrival, plan, [1, 0, 0], WAY)
        self.assert_told(35, arrival, plan, [2, 0, 0], WAY)
        walked = (0, 10, ("ride", 0, 1, ("walk", 0, ("walk", 1, LATE))))
        self.assert_told(None, arrival, plan, [0, 0, 0], walked)
        for minute, told in ((10, 35), (11, None)):
            self.assert_told(told, arrival, plan, [0, 0, 0], (0, minute, ("walk", 1, LATE)))

    def test_by_asks_for_the_minute_without_the_change(self):
        either = (0, 10, ("ride", 0, 1, ("by", 18, LATE, ("walk", 2, THERE))))
        for late, told in ((2, 24), (3, 25), (4, 39)):
            self.assert_told(told, arrival, TRIO, [late, 0, 0], either)
        first = (0, 10, ("by", 10, ("walk", 1, THERE), ("walk", 2, THERE)))
        self.assert_told(30, arrival, TRIO, [0, 0, 0], first)
        self.assert_told(41, arrival, TRIO, [0, 0, 0], (0, 11, first[2]))

    def test_the_change_is_there_behind_by(self):
        plan = put_part(TRIO, "meets", ())
        way = (0, 10, ("ride", 0, 1, ("by", 16, LATE, THERE)))
        self.assert_told(23, arrival, plan, [1, 0, 0], way)
        self.assert_told(17, arrival, plan, [2, 0, 0], way)

    def test_what_was_told_to_leave_ahead_is_not_looked_for(self):
        # Trip 1 is told to leave at 14, ahead of the ride by which the rider comes, and leaves at 23 only.
        plan = plan_of(
            [((0, 1, 2), (5, 5), (0,)), ((1, 3), (5,), ()), ((2, 1), (4,), ())],
            [(0, (10, 15)), (1, (14,)), (1, (40,)), (2, (8,))],
            blocks=(("block", (0,), (), None), ("block", (3, 1), (0,), None), ("block", (2,), (), None)),
            bounds=((0, 0), (0,), (0,), (9,)), budget=9,
        )
        self.assertEqual([(3, 0), (0, 0), (1, 0), (0, 1), (2, 0)], all_rides(plan[3]))
        course = [9, 0, 0, 0, 0]
        early = (0, 10, ("ride", 0, 1, ("ride", 1, 3, THERE)))
        self.assert_told([(0, 0, 0), (1, 0, 0)], ridden, plan, course, early)
        # By the second ride, at 20, and on foot to 1 at 25: not if it left ahead; the first one only behind (0, 1).
        around = (0, 10, ("ride", 0, 2, ("walk", 1, ("ride", 1, 3, THERE))))
        self.assert_told([(0, 0, 1), (2, 0, 0)], ridden, plan, course, around)
        slow = put_part(plan, "delays", (((0, 0), (0,), (0,), (9,)), 9))
        self.assert_told(45, arrival, slow, course, around)
        self.assert_riding(plan, course, around)
        self.assert_riding(plan, course, early)

    def test_lines_that_come_to_a_stop_again(self):
        # From 0 to 1 and back; the first hop from where one is, and the first one that ends there.
        plan = plan_of([((0, 1, 0, 1, 2), (5, 5, 5, 5), (0, 0, 0))], [(0, (0, 5, 10, 15)), (0, (40, 45, 50, 55))])
        course = [0] * 8
        for way, told in (
            ((0, 0, ("ride", 0, 1, THERE)), [(0, 0, 0)]), ((0, 1, ("ride", 0, 1, THERE)), [(1, 0, 0)]),
            ((1, 0, ("ride", 0, 0, THERE)), [(0, 1, 1)]), ((1, 6, ("ride", 0, 2, THERE)), [(1, 1, 3)]),
            ((0, 0, ("ride", 0, 2, THERE)), [(0, 0, 3)]), ((0, 0, ("ride", 0, 1, ("ride", 0, 0, THERE))), [(0, 0, 0), (0, 1, 1)]),
        ):
            self.assert_told(told, ridden, plan, course, way)
            self.assert_riding(plan, course, way)

    def test_rides_that_are_not_run(self):
        plan = plan_of(
            [((0, 1, 2), (5, 5), (0,)), ((3, 1), (5,), ())], [(0, (0, 5)), (0, (10, 15)), (1, (60,)), (0, (30, 35))],
            remedies=((0, ("cut", 0, 0)), (0, ("drop", 1))),
        )
        course = [0] * 7
        for way, told in (
            ((0, 0, ("ride", 0, 1, THERE)), [(0, 0, 0)]), ((0, 0, ("ride", 0, 2, THERE)), [(3, 0, 1)]),
            ((0, 1, ("ride", 0, 1, THERE)), [(3, 0, 0)]), ((1, 0, ("ride", 0, 2, THERE)), [(3, 1, 1)]),
        ):
            self.assert_told(told, ridden, plan, course, way)
            self.assert_riding(plan, course, way)

    def test_without_rides(self):
        for way, told in (((0, 7, THERE), 7), ((0, 1990, ("walk", 1, ("walk", 2, THERE))), 2030)):
            self.assert_told(told, arrival, TRIO, [0, 0, 0], way)
            self.assert_told([], ridden, TRIO, [0, 0, 0], way)
            self.assert_told([("there", told)] * 4, places, TRIO, [0, 0, 0], way)
            self.assert_told((told, [0, 0, 0]), surely_by, TRIO, way)

    def test_stranded(self):
        self.assert_told(None, ridden, TRIO, [0, 0, 0], (0, 11, WAY[2]))
        self.assert_told([("at", 11, 0)] * 4, places, TRIO, [0, 0, 0], (0, 11, WAY[2]))
        self.assert_told((None, [0, 0, 0]), surely_by, TRIO, (0, 11, WAY[2]))

    def test_errors(self):
        for call in (arrival, places, ridden):
            for value in OTHERS + [UNSOUND]:
                self.assert_error(InvalidPlan, [value], call, value, None, None)
            for value in OTHERS + [[5, 0, 0], [0, 0], [0, 0, 1]]:
                self.assert_error(InvalidCourse, [value], call, TRIO, value, None)
            for value in OTHERS + [(0, 10), (2, 10, LATE), list(WAY), (0, 2000, THERE)]:
                self.assert_error(InvalidWay, [value], call, TRIO, [0, 0, 0], value)

    def test_by_name_and_plain(self):
        for call in (arrival, places, ridden):
            self.assert_by_name(call, plan=TRIO, course=[3, 0, 0], way=WAY)
        self.assert_by_name(is_way, plan=TRIO, value=WAY)
        own = (Few.NONE, 10, ("ride", Few.NONE, Few.ONE, ("ride", Few.ONE, Few.TWO, THERE)))
        self.assert_same(24, arrival(TRIO, [Few.TWO, Few.NONE, Few.NONE], own))
        self.assert_same([("at", 10, 0), ("at", 19, 1), ("there", 24), ("there", 24)], places(TRIO, [Few.TWO, 0, 0], own))
        self.assert_same([(0, 0, 0), (1, 0, 0)], ridden(TRIO, [Few.TWO, 0, 0], own))
        self.assert_same([("there", 2)] * 4, places(TRIO, [0, 0, 0], (1, Few.TWO, ("by", Few.TWO, THERE, LATE))))
        self.assert_same([("there", 1)] * 4, places(TRIO, [0, 0, 0], (0, Few.ONE, THERE)))


class Sure(Case):
    def known(self, plan, way):
        return {tuple(course): Riding(plan, course, way) for course in courses(plan)}

    def assert_sure(self, plan, way):
        known = self.known(plan, way)
        arrivals = {course: riding.arrival for course, riding in known.items()}
        stranded = [list(course) for course in arrivals if arrivals[course] is None]
        greatest = None if stranded else max(arrivals.values())
        last = least_of([list(course) for course in arrivals if arrivals[course] == greatest])
        self.assert_told((greatest, last), surely_by, plan, way)
        minutes = {0, 9999999} | {minute + add for minute in set(arrivals.values()) - {None} for add in (-1, 0)}
        for minute in sorted(minutes - {-1}):
            late = [list(course) for course, at in arrivals.items() if at is None or at > minute]
            self.assert_told(least_of(late), late_course, plan, way, minute)
            book = None if late else self.lists(plan, known)
            self.assert_told(book, sure_book, plan, way, minute)
            for course in list(arrivals)[:10]:
                self.assertIs(is_late_course(plan, way, minute, list(course)), list(course) in late)
                self.assertIs(is_late_course(plan, way, minute, course), list(course) in late)
            if book is not None:
                self.assert_yes(is_sure_book, plan, way, minute, book)
            self.assertIs(is_sure_book(plan, way, minute, self.lists(plan, known)), not late)

    def lists(self, plan, known):
        found = [{} for _ in range(len(let_bounds(plan)) + 1)]
        for course, riding in known.items():
            for many, place in enumerate(riding.places()):
                key = (standing(plan, course, many), place)
                found[many][key] = min(sum(course[:many]), found[many].get(key, 99))
        return [sorted(key + (spent,) for key, spent in rows.items()) for rows in found]

    def test_against_all_courses(self):
        done = 0
        for number in range(170):
            plan = made(number, rides=5, bound=2, budget=3)
            if len(courses(plan)) <= 40:
                self.assert_sure(plan, made_way(number, plan))
                done += 1
        self.assertGreater(done, 90)

    def test_the_example(self):
        self.assert_sure(TRIO, WAY)
        self.assert_told((35, [4, 0, 0]), surely_by, TRIO, WAY)
        self.assert_sure(TRIO, (0, 10, ("ride", 0, 1, ("by", 18, LATE, ("walk", 2, THERE)))))

    def test_stranded_without_a_delay_alone(self):
        # The rider comes two minutes late for the trip, which is as late if its vehicle is.
        plan = plan_of(
            [((0, 1), (5,), ()), ((1, 2), (5,), ())], [(0, (0,)), (1, (5,))], blocks=(("block", (0, 1), (0,), None),),
            bounds=((4,), (0,)), budget=4,
        )
        way = (1, 7, ("ride", 1, 2, THERE))
        self.assertEqual([None, None, 12, 13, 14], [arrival(plan, [late, 0], way) for late in range(5)])
        self.assert_told((None, [0, 0]), surely_by, plan, way)
        self.assert_told([0, 0], late_course, plan, way, 99)
        self.assert_sure(plan, way)
        self.assert_told((14, [4, 0]), surely_by, put_part(plan, "heard", (4,)), way)

    def test_what_is_heard(self):
        for late, told in ((0, 23), (3, 25), (4, 35)):
            plan = put_part(TRIO, "heard", (late,))
            self.assert_told((told, [late, 0, 0]), surely_by, plan, WAY)
            self.assert_sure(plan, WAY)

    def test_with_more_budget_never_sooner(self):
        for number in range(40):
            plan = made(number, rides=5, remedies=False)
            way = made_way(number, plan)
            told = [surely_by(with_budget(plan, budget), way)[0] for budget in range(6)]
            self.assertEqual(sorted(told, key=lambda minute: 10 ** 6 if minute is None else minute), told)

    def test_errors(self):
        for value in OTHERS + [UNSOUND]:
            self.assert_error(InvalidPlan, [value], is_way, value, None)
            for call, many in ((surely_by, 1), (late_course, 2), (is_late_course, 3), (sure_book, 2), (is_sure_book, 3)):
                self.assert_error(InvalidPlan, [value], call, value, *[None] * many)
        for value in OTHERS + [(0, 10), (2, 10, LATE), list(WAY)]:
            for call, many in ((surely_by, 0), (late_course, 1), (is_late_course, 2), (sure_book, 1), (is_sure_book, 2)):
                self.assert_error(InvalidWay, [value], call, TRIO, value, *[None] * many)
        for value in NO_INTEGERS + [-1, 10000000, 10 ** 29]:
            for call, many in ((late_course, 0), (is_late_course, 1), (sure_book, 0), (is_sure_book, 1)):
                self.assert_error(InvalidMinute, [value], call, TRIO, WAY, value, *[None] * many)
        self.assert_told(None, late_course, TRIO, WAY, 9999999)
        self.assert_told([0, 0, 0], late_course, TRIO, WAY, 0)

    def test_by_name_and_plain(self):
        self.assert_by_name(surely_by, plan=TRIO, way=WAY)
        self.assert_by_name(late_course, plan=TRIO, way=WAY, minute=23)
        self.assert_by_name(is_late_course, plan=TRIO, way=WAY, minute=23, value=[2, 0, 0])
        self.assert_by_name(sure_book, plan=TRIO, way=WAY, minute=35)
        self.assert_by_name(is_sure_book, plan=TRIO, way=WAY, minute=35, value=sure_book(TRIO, WAY, 35))
        own = (Few.NONE, 10, ("ride", Few.NONE, Few.ONE, ("ride", Few.ONE, Few.TWO, THERE)))
        heard = put_part(TRIO, "heard", (Few.TWO,))
        self.assert_same((24, [2, 0, 0]), surely_by(heard, own))
        self.assert_same([2, 0, 0], late_course(heard, own, Few.TWO))
        self.assert_same([((), ("at", 10, 0), 0)], sure_book(heard, own, 24)[0])
        self.assert_same([((2,), ("at", 19, 1), 2)], sure_book(heard, own, 24)[1])

    def test_values_that_are_no_course(self):
        for value in OTHERS + [[5, 0, 0], [4, 0], [4, 0, 0, 0], [4, True, 0], [4, 0, 1]]:
            self.assertIs(is_late_course(TRIO, WAY, 23, value), False)
        self.assertIs(is_late_course(TRIO, WAY, 34, [4, 0, 0]), True)
        self.assertIs(is_late_course(TRIO, WAY, 35, [4, 0, 0]), False)
        self.assertIs(is_late_course(TRIO, (0, 11, WAY[2]), 9999999, [0, 0, 0]), True)


class Books(Case):
    def some(self):
        found = [(TRIO, WAY, 35, sure_book(TRIO, WAY, 35)), (TRIO, WAY, 99, sure_book(TRIO, WAY, 99))]
        number = 0
        while len(found) < 9:
            plan = made(number, rides=5, bound=2, budget=3)
            way = made_way(number, plan)
            minute, _ = surely_by(plan, way)
            if minute is not None and len(courses(plan)) in range(4, 30):
                found.append((plan, way, minute, sure_book(plan, way, minute)))
            number += 1
        return found

    def closes(self, plan, way, minute, book):
        """The definition, of lists whose rows are of the right kinds."""
        riding = Riding(plan, courses(plan)[0], way)
        if any(rows != sorted(rows) or len({row[:2] for row in rows}) < len(rows) for rows in book):
            return False
        tables = [{row[:2]: row[2] for row in rows} for rows in book]
        if tables[0].get((first_standing(plan), riding.places()[0])) != 0:
            return False
        if any(place[0] != "there" or place[1] > minute for _, place in tables[-1]):
            return False
        bounds, heard, budget = let_bounds(plan), plan[10], plan[8][1]
        for at, table in enumerate(tables[:-1]):
            for (held, place), spent in table.items():
                for delay in range(bounds[at] + 1):
                    if spent + delay > budget or (at < len(heard) and delay != heard[at]):
                        continue
                    behind, times, _, _ = step(plan, at, held, delay)
                    new = self.moved(plan, way, place, all_rides(plan[3])[at], times)
                    if tables[at + 1].get((behind, new), 99) > spent + delay:
                        return False
        return True

    def moved(self, plan, way, place, ride, times):
        """[73], told once more."""
        route = parts(way[2])
        if place[0] == "there" or times[0] is None:
            return place
        own = route[place[2]]
        first, last = self.hops(plan, way, place[2])
        off = Riding(plan, courses(plan)[0], way).known.off
        if place[0] == "at":
            trip = plan[3][ride[0]]
            if trip[1] != own[1] or (ride[0], last) in off or ride[1] != first or times[0] < place[1]:
                return place
            place = ("in", ride[0], place[2])
        if place[1] != ride[0] or ride[1] != last:
            return place
        rest = Riding.__new__(Riding)
        rest.plan, rest.behind, rest.segments, rest.ridden = plan, -1, [], []
        rest.ride = lambda stop, ready, ahead, number: rest.segments.append((0, ("at", ready, number)))
        rest.go(own[2], times[1], own[3], place[2] + 1, True)
        return rest.segments[0][1]

    def hops(self, plan, way, number):
        from riding import hops_of
        stop = self.stop_of(way[0], way[2], 0, number)
        own = parts(way[2])[number]
        return hops_of(plan, own[1], stop, own[2])

    def stop_of(self, stop, route, at, number):
        """The stop at which the part with this number begins, None if it is not in this route."""
        if at == number:
            return stop
        if route[0] == "there":
            return None
        if route[0] == "by":
            found = self.stop_of(stop, route[2], at + 1, number)
            return found if found is not None else self.stop_of(stop, route[3], at + 1 + len(parts(route[2])), number)
        return self.stop_of(route[1] if route[0] == "walk" else route[2], route[-1], at + 1, number)

    def test_what_is_told_closes(self):
        for plan, way, minute, book in self.some():
            self.assertTrue(self.closes(plan, way, minute, book))
            self.assert_yes(is_sure_book, plan, way, minute, book)
            self.assert_yes(is_sure_book, plan, way, minute, tuple(map(tuple, book)))
            self.assertIs(is_sure_book(plan, way, minute - 1, book), self.closes(plan, way, minute - 1, book))

    def test_rows_left_out_and_twice(self):
        for plan, way, minute, book in self.some():
            for at, rows in enumerate(book):
                for row in range(len(rows)):
                    self.assertIs(is_sure_book(plan, way, minute, put(book, (at,), rows[:row] + rows[row + 1:])), False)
                    self.assertIs(is_sure_book(plan, way, minute, put(book, (at,), rows[:row + 1] + rows[row:])), False)
                if len(rows) > 1:
                    self.assertIs(is_sure_book(plan, way, minute, put(book, (at,), rows[::-1])), False)

    def test_rows_of_other_lengths_and_rows_twice(self):
        for plan, way, minute, book in self.some():
            for at, rows in enumerate(book):
                for row in range(min(3, len(rows))):
                    for other in (rows[row] + (0,), rows[row][:2], rows[row] + rows[row]):
                        self.assertIs(is_sure_book(plan, way, minute, put(book, (at, row), other)), False)
                    if rows[row][2] > 0:
                        twice = sorted(rows + [rows[row][:2] + (rows[row][2] - 1,)])
                        self.assertIs(is_sure_book(plan, way, minute, put(book, (at,), twice)), False)

    def test_numbers_one_more_or_less(self):
        for plan, way, minute, book in self.some():
            for at, rows in enumerate(book):
                for row in range(len(rows)):
                    for add in (-1, 1):
                        other = put(book, (at, row, 2), rows[row][2] + add)
                        told = rows[row][2] + add in range(plan[8][1] + 1) and self.closes(plan, way, minute, other)
                        self.assertIs(is_sure_book(plan, way, minute, other), told)
                        if rows[row][1][0] != "in":
                            other = put(book, (at, row, 1, 1), rows[row][1][1] + add)
                            self.assertIs(is_sure_book(plan, way, minute, other), self.closes(plan, way, minute, other))

    def test_rows_put_in(self):
        rng = random.Random(4)
        for plan, way, minute, book in self.some():
            for _ in range(12):
                at = rng.randrange(len(book))
                held, place, spent = rng.choice(book[at])
                if place[0] == "there" or rng.random() < 0.3:
                    place = ("there", rng.randint(0, minute + 1))
                else:
                    place = ("at", rng.randint(0, 20), place[2])
                new = (held, place, rng.randint(0, plan[8][1]))
                other = put(book, (at,), sorted({row[:2]: row for row in [new] + book[at]}.values()))
                self.assertIs(is_sure_book(plan, way, minute, other), self.closes(plan, way, minute, other))

    def with_row(self, plan, way, book, row):
        """The lists with a row more at 1, and with all that comes of it."""
        tables = [{one[:2]: one[2] for one in rows} for rows in book]
        tables[1][row[:2]] = row[2]
        for at in range(1, len(tables) - 1):
            for (held, place), spent in tables[at].items():
                for delay in range(min(let_bounds(plan)[at], plan[8][1] - spent) + 1):
                    behind, times, _, _ = step(plan, at, held, delay)
                    key = (behind, self.moved(plan, way, place, all_rides(plan[3])[at], times))
                    tables[at + 1][key] = min(spent + delay, tables[at + 1].get(key, 99))
        return [sorted(key + (spent,) for key, spent in table.items()) for table in tables]

    def test_places_that_are_some(self):
        plan = put_part(TRIO, "meets", ())
        book = sure_book(plan, WAY, 99)
        self.assertEqual([((), ("at", 17 + late, 1), late) for late in range(5)], book[1])
        held = book[1][0][0]
        for place, told in (
            (("there", 0), True), (("there", 99), True), (("there", 100), False), (("at", 0, 1), True), (("at", 30, 1), True),
            (("at", 31, 1), False), (("in", 1, 1), True), (("in", 2, 1), True), (("in", 0, 0), False), (("at", 5, 0), False),
        ):
            more = self.with_row(plan, WAY, book, (held, place, 0))
            self.assertEqual(told, self.closes(plan, WAY, 99, more))
            self.assertIs(is_sure_book(plan, WAY, 99, more), told, place)

    def test_places_that_are_none(self):
        plan = put_part(TRIO, "meets", ())
        book = sure_book(plan, WAY, 99)
        held = book[1][0][0]
        for place, near in (
            (("in", 0, 1), ("in", 1, 1)), (("in", 3, 1), ("in", 1, 1)), (("in", -1, 1), ("in", 1, 1)), (("in", True, 1), ("in", 1, 1)),
            (("in", 1, True), ("in", 1, 1)), (("in", 1), ("in", 1, 1)), (("in", 1, 1, 0), ("in", 1, 1)), (("in", 1, 2), ("in", 1, 1)),
            (("in", 1, 0), ("in", 1, 1)), (("at", 20, 2), ("at", 20, 1)), (("at", 20, 3), ("at", 20, 1)), (("at", 20, -2), ("at", 20, 1)),
            (("at", -1, 1), ("at", 0, 1)), (("at", True, 1), ("at", 1, 1)), (("at", 20, True), ("at", 20, 1)), (("at", 20), ("at", 20, 1)),
            (("At", 20, 1), ("at", 20, 1)), (("there", -1), ("there", 0)), (("there", False), ("there", 0)), (("there",), ("there", 0)),
            (("there", 5, 1), ("there", 5)), (["there", 5], ("there", 5)), (["at", 20, 1], ("at", 20, 1)), (("gone", 5), ("there", 5)),
            (("gone", 1, 1), ("in", 1, 1)), (("there", 1, 1), ("in", 1, 1)), (("At", 20, 1), ("at", 20, 1)), (("AT", 1, 1), ("in", 1, 1)),
        ):
            more = self.with_row(plan, WAY, book, (held, near, 0))
            self.assertIs(is_sure_book(plan, WAY, 99, more), True, near)
            for many in (1, 2, 3):
                if near in [row[1] for row in more[many]]:
                    at = [row[1] for row in more[many]].index(near)
                    self.assertIs(is_sure_book(plan, WAY, 99, put(more, (many, at, 1), place)), False, place)

    def test_a_rider_in_a_trip_that_is_not_run(self):
        plan = plan_of(
            [((0, 1, 2), (5, 5), (0,))], [(0, (0, 5)), (0, (10, 15)), (0, (20, 25))], remedies=((0, ("cut", 1, 0)), (0, ("drop", 2))),
        )
        for way in ((0, 0, ("ride", 0, 2, THERE)), (0, 0, ("ride", 0, 2, ("walk", 1, THERE)))):
            book = sure_book(plan, way, 15)
            self.assert_yes(is_sure_book, plan, way, 15, book)
            for at in range(7):
                held = book[at][0][0]
                for place in (("in", 1, 0), ("in", 2, 0), ("at", 1, 0)):
                    more = put(book, (at,), sorted(book[at] + [(held, place, 0)]))
                    self.assertIs(is_sure_book(plan, way, 15, more), False)
                    stays = book[:at] + [sorted(rows + [(rows[0][0], place, 0)]) for rows in book[at:]]
                    self.assertIs(is_sure_book(plan, way, 15, stays), False)

    def test_tuples_for_lists_and_lists_for_tuples(self):
        for plan, way, minute, book in self.some():
            self.assertIs(is_sure_book(plan, way, minute, listed(tuple(map(tuple, book)))), False)
            for path in ((0, 0), (0, 0, 0), (0, 0, 1)):
                self.assertIs(is_sure_book(plan, way, minute, put(book, path, list(part(book, path)))), False)
            for more in (book[:-1], book + [book[-1]], book + [[]], [[]] * len(book), []):
                self.assertIs(is_sure_book(plan, way, minute, more), False)

    def test_values_of_all_kinds(self):
        for plan, way, minute, book in self.some()[:3]:
            for value in OTHERS:
                self.assertIs(is_sure_book(plan, way, minute, value), False)
            for path in paths(book):
                if path and (len(path) == 1 or path[1] == 0) and not isinstance(part(book, path), (tuple, str)):
                    for value in NO_INTEGERS:
                        self.assertIs(is_sure_book(plan, way, minute, put(book, path, value)), False)
            for path in ((0, 0), (0, 0, 1), (0, 0, 1, 0)):
                for value in OTHERS:
                    self.assertIs(is_sure_book(plan, way, minute, put(book, path, value)), False)

    def test_the_last_places_are_there_in_time(self):
        way = (0, 10, THERE)
        book = sure_book(TRIO, way, 10)
        self.assertEqual({("there", 10)}, {row[1] for rows in book for row in rows})
        for minute in (9, 10, 11):
            self.assertIs(is_sure_book(TRIO, way, minute, book), minute >= 10)


class Limits(Case):
    def test_standings_and_steps(self):
        way = (0, 0, ("walk", 1, ("ride", 1, 2, THERE)))
        for what, limit, (bounds, budget) in (
            ("standings", 4000, ((1, 6, 6, 6, 6), 16)), ("steps", 40000, ((7, 6, 8, 0, 1, 6) + (0,) * 9, 14)),
        ):
            plan = wide(bounds, budget)
            self.assert_error(TooMany, [what, limit], surely_by, plan, way)
            self.assert_error(TooMany, [what, limit], late_course, plan, way, 0)
            self.assert_error(TooMany, [what, limit], sure_book, plan, way, 0)
            self.assertIs(is_late_course(plan, way, 0, [0] * (len(bounds) + 1)), True)
            self.assertIs(is_sure_book(plan, way, 9999, []), False)
            still = with_budget(plan, 0)
            book = sure_book(still, way, 9999)
            self.assertIs(is_sure_book(still, way, 9999, book), True)
            self.assertIs(is_sure_book(plan, way, 9999, book), False)

    def test_just_as_many(self):
        way = (0, 0, ("walk", 1, ("ride", 1, 2, THERE)))
        for bounds, budget in (((1, 4, 4, 8, 9), 18), ((5, 4, 6, 9, 1) + (0,) * 10, 16)):
            plan = wide(bounds, budget)
            told = 30 * len(bounds) + 20
            self.assertEqual((told, [0] * (len(bounds) + 1)), surely_by(plan, way))
            self.assertIsNone(late_course(plan, way, told))

    def test_places_count_as_well(self):
        # One standing behind each ride, as nothing of them is asked; but the rider is there at unlike minutes.
        plan = overview(bound=9, budget=9, promises=())[:6] + ((), ()) + overview(bound=9, budget=9)[8:]
        way = (0, 0, ("ride", 0, 1, THERE))
        self.assertEqual([1, 10, 10], [len(rows) for rows in sure_book(plan, way, 99)])


if __name__ == "__main__":
    unittest.main()
