"""[41] to [44]: fields, standings, steps."""

import random
import unittest

from citylines.errors import InvalidCourse, InvalidDelay, InvalidMany, InvalidPlan, InvalidStanding
from citylines.fields import fields, first_standing, standing, step
from helpers import Case, Few, NO_INTEGERS, OTHERS
from reckon import Reckoned, asked, courses, fields_at, let_bounds, standing_of, step_of
from some_plans import made, put_part
from told_plans import CASE_B, CASE_D, CHARGED, RICH, TWO_FEEDERS, alone, case_e, overview, plan_of

UNSOUND = put_part(CASE_B, "promises", (("driven", 1, 29),))
PLANS = [CASE_B, CASE_D, CHARGED, RICH, TWO_FEEDERS, case_e(None), case_e((1, 1, 2)), overview(), overview(way="blind")]


def rides_of(plan):
    return len(let_bounds(plan))


class Fields(Case):
    def test_against_the_table(self):
        for plan in PLANS + [made(number, rides=9) for number in range(150)]:
            for many in range(rides_of(plan) + 1):
                self.assert_told(fields_at(plan, many), fields, plan, many)

    def test_what_is_asked_stands_ahead(self):
        for plan in PLANS + [made(number, rides=9) for number in range(60)]:
            sequence = Reckoned(plan, [0] * rides_of(plan)).rides
            for at, asks in enumerate(asked(plan)):
                self.assertTrue(all(sequence.index(ride) < at for _, ride in asks))

    def test_by_hand(self):
        self.assert_told([], fields, overview(), 0)
        self.assert_told([("end", 0), ("left", 0)], fields, overview(), 1)
        self.assert_told([("end", 0)], fields, overview(way="blind"), 1)
        self.assert_told([], fields, overview(), 2)
        # The rides of D: 0, 3, 1 with two hops, 2; a battery in the block 0.
        expected = [[], [("end", 0)], [("end", 0), ("end", 1)], [("end", 2)], [("end", 3)], []]
        for many, told in enumerate(expected):
            level = [("level", 0)] if 0 < many < 5 else []
            self.assert_told(told + level, fields, CASE_D, many)
        # The spares stand at each position, also if there are none of them.
        for number in (0, 1, 3):
            plan = case_e((number, 1, 2))
            self.assertEqual([("spares",)] * 4, [fields(plan, many)[-1] for many in range(4)])
            self.assertEqual([1, 2, 3, 1], [len(fields(plan, many)) for many in range(4)])

    def test_spans(self):
        lines = [((0, 1), (5,), ()), ((1, 2), (5,), ()), ((2, 3), (5,), ())]
        duties = (("duty", ((0, 0, 0), (1, 0, 0), (2, 0, 0)), (("rest", 1), ("walk", 0))),)
        plan = plan_of(lines, [(0, (0,)), (1, (20,)), (2, (40,))], duties=duties)
        ends = [[], [("end", 0)], [("end", 1)], []]
        for promises, left in (
            ((), ()), ((("driven", 0, 30),), (1,)), ((("long", 0, 45),), (0,)), ((("driven", 0, 30), ("long", 0, 45)), (0, 1)),
        ):
            plan = put_part(plan, "promises", promises)
            for many in range(4):
                lefts = [("left", at) for at in left if at < many < 3]
                self.assert_told(sorted(ends[many] + lefts, key=lambda field: (field[1], field[0])), fields, plan, many)

    def test_errors(self):
        for value in OTHERS + [UNSOUND]:
            self.assert_error(InvalidPlan, [value], fields, value, None)
            self.assert_error(InvalidPlan, [value], first_standing, value)
            self.assert_error(InvalidPlan, [value], standing, value, None, None)
            self.assert_error(InvalidPlan, [value], step, value, None, None, None)
        for value in NO_INTEGERS + [-1, 10 ** 29]:
            self.assert_error(InvalidMany, [value], fields, overview(), value)
            self.assert_error(InvalidMany, [value], standing, overview(), [0, 0], value)
            self.assert_error(InvalidMany, [value], step, overview(), value, None, None)
        self.assert_error(InvalidMany, [3], fields, overview(), 3)
        self.assert_error(InvalidMany, [3], standing, overview(), [0, 0], 3)
        self.assert_error(InvalidMany, [2], step, overview(), 2, (), 0)

    def test_by_name(self):
        plan = overview()
        self.assert_by_name(fields, plan=plan, many=1)
        self.assert_by_name(first_standing, plan=case_e((2, 1, 1)))
        self.assert_by_name(standing, plan=plan, course=[4, 0], many=1)
        self.assert_by_name(step, plan=plan, many=1, standing=(4, 0), delay=0)

    def test_plain(self):
        self.assert_same((4, 0), standing(overview(), [4, Few.NONE], Few.ONE))
        self.assert_same((2, 0), standing(overview(), [Few.TWO, 0], 1))
        self.assert_same(((2, 0), (0, 12), (), ()), step(overview(), 0, (), Few.TWO))
        self.assert_same(((), (13, 20), (0,), ()), step(overview(), 1, (Few.TWO, Few.NONE), Few.NONE))
        plan = put_part(case_e((1, 1, 1)), "spares", (Few.TWO, 1, 1))
        self.assert_same((2,), first_standing(plan))
        self.assert_same(((1, Few.TWO.value), (2, 13), (), ()), step(plan, 0, (Few.TWO,), Few.ONE))


class Standings(Case):
    def test_of_all_prefixes(self):
        for number in range(80):
            plan = made(number, rides=5)
            for course in courses(plan)[:40]:
                known = Reckoned(plan, course)
                for many in range(len(course) + 1):
                    expected = standing_of(known, fields_at(plan, many), many)
                    self.assertEqual(expected, standing(plan, course, many))
                    if many < len(course):
                        behind = step_of(known, fields_at(plan, many + 1), many)
                        self.assertEqual(behind, step(plan, many, expected, course[many]))

    def test_of_the_documents_plans(self):
        for plan in PLANS:
            for course in random.Random(2).sample(courses(plan), min(12, len(courses(plan)))):
                known = Reckoned(plan, course)
                for many in range(len(course)):
                    expected = standing_of(known, fields_at(plan, many), many)
                    self.assert_told(expected, standing, plan, course, many)
                    self.assert_told(step_of(known, fields_at(plan, many + 1), many), step, plan, many, expected, course[many])

    def test_first(self):
        self.assert_told((), first_standing, overview())
        for number in range(4):
            self.assert_told((number,), first_standing, case_e((number, 0, 0)))

    def test_courses(self):
        self.assert_told((4, 0), standing, overview(), (4, 0), 1)
        for value in OTHERS + [[6, 0], [4]]:
            self.assert_error(InvalidCourse, [value], standing, overview(), value, None)


class Steps(Case):
    def assert_no_standing(self, plan, many, value):
        self.assert_error(InvalidStanding, [value], step, plan, many, value, None)

    def test_standings_of_all_kinds(self):
        for value in OTHERS:
            if not isinstance(value, tuple) or value:
                self.assert_no_standing(overview(), 0, value)
            self.assert_no_standing(overview(), 1, value)
        for value in NO_INTEGERS + [-1]:
            self.assert_no_standing(overview(), 1, (value, 0))
            self.assert_no_standing(overview(), 1, (10, value))
            self.assert_no_standing(case_e((1, 1, 1)), 0, (value,))
        for value in ([4, 0], (4,), (4, 0, 0), ((4, 0),), (3, 4)):
            self.assert_no_standing(overview(), 1, value)
        self.assert_no_standing(overview(), 0, [])
        self.assert_error(InvalidMany, [2], step, overview(), 2, None, None)

    def test_bounds_of_standings(self):
        self.assert_told(((), (12, 19), (), ()), step, overview(), 1, (10 ** 29, 10 ** 29), 0)
        self.assertEqual((12, 19), step(overview(), 1, (3000, 0), 0)[1])
        self.assertEqual((14, 21), step(overview(), 1, (3, 3), 0)[1])
        plan = case_e((1, 1, 2))
        for left in (0, 1):
            self.assertEqual((left, 0), step(plan, 0, (left,), 0)[0][::-1])
        self.assert_no_standing(plan, 0, (2,))
        # The level of D is at most 20, at the position 1 behind the one end.
        for level in (0, 20):
            self.assertEqual((0, 0, level), step(CASE_D, 1, (0, level), 0)[0])
        self.assert_no_standing(CASE_D, 1, (0, 21))

    def test_delays(self):
        for late in range(6):
            self.assert_told(((late, 0), (0, 10 + late), (), ()), step, overview(budget=0), 0, (), late)
        for value in NO_INTEGERS + [-1, 6, 10 ** 29]:
            self.assert_error(InvalidDelay, [value], step, overview(), 0, (), value)
        self.assert_error(InvalidDelay, [1], step, overview(), 1, (0, 0), 1)
        self.assert_error(InvalidStanding, [(0,)], step, overview(), 1, (0,), 1)
        heard = put_part(overview(), "heard", (4,))
        for late in range(6):
            self.assert_told(((late, 0), (0, 10 + late), (), ()), step, heard, 0, (), late)

    def test_from_standings_that_no_course_comes_to(self):
        # 40 late, having left 38 late; one left in vain, and one that still waits.
        self.assert_told(((), (12, 19), (), ()), step, overview(), 1, (40, 38), 0)
        self.assert_told(((), (15, 22), (), ((0, 1),)), step, overview(way="blind"), 1, (40,), 0)
        # By news: what left 3 late, and comes 5 late, is known to be too late at 3 only.
        early = overview(wait=4)
        self.assert_told(((), (16, 23), (0,), ((0, 2),)), step, early, 1, (5, 3), 0)
        self.assert_told(((), (12, 19), (), ()), step, early, 1, (6, 3), 0)

    def test_from_any_standing_by_the_tests_own_reckoning(self):
        for number in range(150):
            plan, rng = made(number, rides=9), random.Random(number)
            bounds = let_bounds(plan)
            for many in range(len(bounds)):
                shape, numbers = fields_at(plan, many), {}
                for field in reversed(shape):
                    if field[0] == "level":
                        numbers[field] = rng.randint(0, plan[4][field[1]][3][0])
                    elif field[0] == "spares":
                        numbers[field] = rng.randint(0, plan[9][0])
                    elif field[0] == "left":
                        numbers[field] = rng.choice([0, 0, 1, 2, 5, 20])
                    else:
                        numbers[field] = numbers.get(("left", field[1]), 0) + rng.choice([0, 0, 1, 3, 30])
                held, delay = tuple(numbers[field] for field in shape), rng.randint(0, bounds[many])
                self.assertEqual(self.reckoned(plan, many, numbers, delay), step(plan, many, held, delay))

    def reckoned(self, plan, many, numbers, delay):
        """The step of a day on which all is told but for these numbers."""
        known = Reckoned(plan, [0] * len(let_bounds(plan)))
        known.breaks, known.lefts, known.stock = [], [None] * (many + 1), numbers.get(("spares",))
        for at, ride in enumerate(known.rides[:many]):
            if ride not in known.off:
                known.left[ride] = known.told(ride) + numbers.get(("left", at), 0)
                known.come[ride] = known.told(ride) + known.least(ride) + numbers.get(("end", at), 0)
        for block, (_, trips, _, _) in enumerate(plan[4]):
            begun = [trip for trip in trips if (trip, 0) in known.rides[:many]]
            if ("level", block) in numbers:
                known.level[begun[-1]] = numbers[("level", block)]
        ride = known.rides[many]
        known.delay[ride] = delay
        known.spared.discard(ride[0])
        if ride not in known.off:
            known.go(many, ride)
        known.lefts.append(known.stock)
        return step_of(known, fields_at(plan, many + 1), many)

    def test_hope_lasts_till_the_feeder_has_left(self):
        # The second rides of both feeders, told to leave at 9: the taker waits till 14 for what leaves at 15 or later.
        for left, leaves in ((2, 12), (4, 13), (5, 14), (6, 14), (90, 14)):
            found = step(TWO_FEEDERS, 4, (200, left, 0, 0), 0)
            self.assertEqual((leaves, leaves + 7), found[1])
            self.assertEqual((1,), found[2])

    def test_levels_of_any_standing(self):
        # The third trip of D asks 15 of 20: ready as many minutes behind 45 as the level lacks, and then empty.
        for level in range(21):
            left = max(50, 45 + max(0, 15 - level))
            breaks = ((0, left - 52),) if left > 52 else ()
            self.assert_told(((), (left, left + 10), (), breaks), step, CASE_D, 4, (0, level), 0)
        # And the second one leaves at 20 behind a first one that is so late.
        for late in range(0, 20, 3):
            arrival = 10 + late
            for level in (0, 5, 20):
                left = max(20, arrival + max(0, 10 - level))
                found = step(CASE_D, 2, (late, 0, level), 0)
                self.assertEqual((left, left + 10), found[1])
                self.assertEqual((left - 20, min(20, level + left - arrival) - 10), found[0])

    def test_spares_of_any_standing(self):
        # In E own is 12 and so many late; a spare sets out above 13, and leaves at 15.
        for late, left in ((0, 12), (1, 13), (2, 14), (3, 15), (4, 15), (8, 15)):
            for spares in (0, 1):
                used = spares if late > 1 else 0
                departure = left if used else 12 + late
                found = step(case_e((1, 1, 2)), 2, (late, 0, spares), 0)
                self.assertEqual(((spares - used,), (departure, departure + 10), (0,), ()), found)

    def test_rides_that_are_not_run(self):
        plan = plan_of(
            [((0, 1), (5,), ()), ((1, 2), (5,), ())], [(0, (0,)), (1, (9,)), (0, (20,))], blocks=alone((0, 1), (2,)),
            meets=(("meet", 1, 0, 2, 0, 9, "news"),), bounds=((3,), (3,), (3,)), budget=9, spares=(2, 0, 0),
            promises=(("leaves", 1, 0, 0), ("meets", 0)), remedies=((0, ("drop", 1)),),
        )
        self.assertEqual([[("spares",)], [("end", 0), ("left", 0), ("spares",)]], [fields(plan, many) for many in (0, 1)])
        self.assert_told(((3, 1, 2), (None, None), (), ()), step, plan, 1, (3, 1, 2), 0)
        self.assert_error(InvalidDelay, [1], step, plan, 1, (3, 1, 2), 1)
        self.assert_told(((2,), (20, 28), (), ()), step, plan, 2, (3, 1, 2), 3)

    def test_made_and_breaks_in_their_sequence(self):
        plan = plan_of(
            [((0, 1), (10,), ()), ((2, 1), (10,), ()), ((1, 3), (10,), ())], [(0, (2,)), (1, (2,)), (2, (12,))],
            meets=(("meet", 1, 0, 2, 0, 0, "blind"), ("meet", 0, 0, 2, 0, 0, "news")),
            promises=(("ends", 2, 1), ("meets", 1), ("leaves", 2, 0, 0), ("meets", 0), ("long", 2, 11)), bounds=((9,), (9,), (3,)), budget=20,
        )
        self.assert_told(((), (12, 22), (0, 1), ()), step, plan, 2, (0, 0, 0), 0)
        self.assert_told(((), (12, 25), (), ((0, 2), (1, 4), (3, 7), (4, 2))), step, plan, 2, (4, 0, 7), 3)
        self.assert_told(((), (12, 23), (0,), ((1, 4),)), step, plan, 2, (4, 0, 0), 1)


if __name__ == "__main__":
    unittest.main()
