"""[81] to [85]: remedies, when one can be put, what is heard after it, what it saves, loses and takes, waits that keep."""

import random
import unittest

from citylines.days import day
from citylines.errors import InvalidHeard, InvalidMeet, InvalidPlan, InvalidRemedy, InvalidRide, TooMany
from citylines.leasts import are_alike
from citylines.plans import is_plan, unsound, with_budget
from citylines.remedies import (
    after, gone, heard_more, is_remedy, is_run, judged, run_hops, waits, waits_that_keep, weighed,
)
from helpers import Case, Few, NO_INTEGERS, OTHERS, put
from reckon import Reckoned, all_rides, courses, least_of, let_bounds
from some_plans import ROWS_4001, STEPS_40001, made, put_part, wide
from told_plans import CASE_A, CASE_B, CASE_C, CASE_D, RICH, SLACK, alone, case_e, overview, plan_of

UNSOUND = put_part(CASE_B, "promises", (("driven", 1, 29),))
# The plan of the interface.
ROOM = (
    "plan", ("city", (1, 1, 2), (0, 1, 0), ((0, 5, 9), (5, 0, 4), (9, 4, 0)), ((0, 2, 4), (2, 0, 2), (4, 2, 0))),
    (("line", (0, 1), (10,), (), 5), ("line", (1, 2), (8,), (), 5)), (("trip", 0, (0,)), ("trip", 1, (12,))),
    (("block", (0,), (), None), ("block", (1,), (), None)), (("duty", ((0, 0, 0),), ()), ("duty", ((1, 0, 0),), ())),
    (("meet", 0, 0, 1, 0, 3, "news"),), (("leaves", 1, 0, 2), ("meets", 0)), (((9,), (0,)), 9), None, (), (),
)


def still(plan):
    """The day with what is heard and no delays behind."""
    rides = all_rides(plan[3])
    return Reckoned(plan, list(plan[10]) + [0] * (len(rides) - len(plan[10])))


def is_away(known, promise):
    """Whether the promise is gone, by the definition of [38]."""
    if promise[0] == "meets":
        return promise[1] in known.gone_meets
    if promise[0] == "leaves":
        return promise[1:3] in known.off
    if promise[0] == "ends":
        return known.end_of(promise[1]) in known.off
    return not any(known.run_rides(piece) for piece in known.duties[promise[1]][1])


def can_be(plan, remedy):
    """The conditions of [82], for a remedy of the right form."""
    known = still(plan)
    later = [ride for ride in known.rides[len(plan[10]):]]
    word, what = remedy[0], remedy[1]
    if len(plan[11]) == 8:
        return False
    if word in ("wait", "free"):
        return what not in known.gone_meets and plan[6][what][3:5] in later
    own = [ride for ride in known.rides if ride[0] == what and ride not in known.off]
    block = next(block for block in plan[4] if what in block[1])
    if word == "spare":
        return block[1][0] != what and (what, 0) in own and (what, 0) in later
    if word == "drop":
        taken = own
        if not own or not all(ride in later for ride in own):
            return False
    else:
        taken = [ride for ride in own if ride[1] > remedy[2]]
        if not {(what, remedy[2]), (what, remedy[2] + 1)} <= set(own) or (what, remedy[2] + 1) not in later:
            return False
    behind = block[1][block[1].index(what) + 1:]
    if any(ride[0] in behind and ride not in known.off for ride in known.rides):
        return False
    for _, pieces, _ in plan[5]:
        run = [known.run_rides(piece) for piece in pieces]
        for place, rides in enumerate(run):
            if set(rides) & set(taken) and any(run[place + 1:]):
                return False
    return True


def candidates(plan):
    """Remedies of the right form, of all meets and trips of the plan."""
    found = []
    for meet in range(len(plan[6])):
        found.extend([("wait", meet, 0), ("wait", meet, 60), ("wait", meet, plan[6][meet][5]), ("free", meet)])
    for trip, (_, _, told) in enumerate(plan[3]):
        found.extend([("spare", trip, 0), ("spare", trip, 60), ("drop", trip)])
        found.extend(("cut", trip, hop) for hop in range(len(told)))
    return found


def can_now(plan):
    return [remedy for remedy in candidates(plan) if is_remedy(plan, remedy)]


class Left(Case):
    """What remedies leave."""

    def test_against_the_reckoning(self):
        for plan in [RICH, CASE_B, ROOM] + [made(number, remedies=True) for number in range(120)]:
            known = still(plan)
            for at, ride in enumerate(known.rides):
                self.assertIs(is_run(plan, at), ride not in known.off)
            hops = [len([ride for ride in known.rides if ride[0] == trip and ride not in known.off]) for trip in range(len(plan[3]))]
            self.assert_told(hops, run_hops, plan)
            told = [None if meet in known.gone_meets else known.wait[meet] for meet in range(len(plan[6]))]
            self.assert_told(told, waits, plan)
            away = [at for at, promise in enumerate(plan[7]) if is_away(known, promise)]
            self.assert_told(away, gone, plan)

    def test_errors_and_names(self):
        for value in OTHERS + [UNSOUND]:
            self.assert_error(InvalidPlan, [value], is_run, value, None)
            for call in (run_hops, waits, gone):
                self.assert_error(InvalidPlan, [value], call, value)
        for value in NO_INTEGERS + [-1, 2, 10 ** 29]:
            self.assert_error(InvalidRide, [value], is_run, ROOM, value)
        self.assert_by_name(is_run, plan=RICH, ride=3)
        for call in (run_hops, waits, gone):
            self.assert_by_name(call, plan=RICH)
        self.assertIs(is_run(ROOM, Few.ONE), True)
        self.assert_same([Few.TWO.value], waits(put_part(ROOM, "meets", (("meet", 0, 0, 1, 0, Few.TWO, "news"),))))


class Putting(Case):
    def test_against_the_conditions(self):
        yes = {}
        for plan in [RICH, CASE_B, ROOM] + [made(number) for number in range(220)]:
            for remedy in candidates(plan):
                told = can_be(plan, remedy)
                self.assertIs(is_remedy(plan, remedy), told, (plan, remedy))
                yes[remedy[0]] = yes.get(remedy[0], 0) + told
        self.assertEqual({"wait", "free", "spare", "drop", "cut"}, {word for word, many in yes.items() if many > 20})

    def test_each_heard_position(self):
        for number in range(60):
            plan = put_part(made(number, remedies=False), "heard", ())
            for heard in range(len(all_rides(plan[3])) + 1):
                own = put_part(plan, "heard", (0,) * heard)
                for remedy in candidates(own):
                    self.assertIs(is_remedy(own, remedy), can_be(own, remedy))

    def test_bounds_of_wait_and_access(self):
        plan = overview()
        for wait, told in ((0, True), (60, True), (61, False), (-1, False)):
            self.assertIs(is_remedy(plan, ("wait", 0, wait)), told)
        plan = CASE_B
        for access, told in ((0, True), (60, True), (61, False), (-1, False)):
            self.assertIs(is_remedy(plan, ("spare", 1, access)), told)
            # The first trip of its block has none.
            self.assert_no(is_remedy, plan, ("spare", 0, access))

    def test_the_eighth_and_the_ninth(self):
        plan = overview()
        for many in range(8):
            self.assert_yes(is_remedy, plan, ("wait", 0, many))
            plan = after(plan, ("wait", 0, many))
            self.assertEqual(many + 1, len(plan[11]))
        for remedy in (("wait", 0, 0), ("free", 0), ("drop", 1), ("drop", 0)):
            self.assert_no(is_remedy, plan, remedy)
            self.assert_error(InvalidRemedy, [remedy], after, plan, remedy)
            self.assert_error(InvalidRemedy, [remedy], weighed, plan, remedy)
        self.assert_error(InvalidMeet, [0], waits_that_keep, plan, 0)

    def test_forms(self):
        plan = plan_of(
            [((0, 1, 2), (5, 5), (0,)), ((2, 3), (5,), ())], [(0, (0, 5)), (1, (12,))], blocks=alone((0, 1)),
            meets=(("meet", 0, 1, 1, 0, 3, "news"),), walk=1,
        )
        right = [("wait", 0, 3), ("free", 0), ("spare", 1, 3), ("drop", 1)]
        for remedy in right + [("cut", 0, 0)]:
            self.assertIs(is_remedy(plan, remedy), remedy in right)
            for value in (list(remedy), remedy + (0,), remedy[:-1], (remedy[0].upper(),) + remedy[1:], (0, remedy)):
                self.assert_no(is_remedy, plan, value)
            for at in range(1, len(remedy)):
                for value in NO_INTEGERS + [-1, 61, 99]:
                    self.assert_no(is_remedy, plan, put(remedy, (at,), value))
            for value in OTHERS:
                self.assert_no(is_remedy, plan, (value,) + remedy[1:])
        dropped = after(plan, ("drop", 1))
        self.assert_yes(is_remedy, dropped, ("cut", 0, 0))
        self.assert_no(is_remedy, dropped, ("cut", 0, 1))
        for value in OTHERS:
            self.assert_no(is_remedy, plan, value)
            self.assert_error(InvalidRemedy, [value], after, plan, value)
            self.assert_error(InvalidRemedy, [value], weighed, plan, value)

    def test_after(self):
        for plan in [RICH] + [made(number) for number in range(80)]:
            for remedy in can_now(plan):
                expected = plan[:11] + (plan[11] + ((len(plan[10]), remedy),),)
                self.assert_told(expected, after, plan, remedy)
                self.assertIsNone(unsound(expected))
        self.assert_same(
            put_part(ROOM, "remedies", ((0, ("wait", 0, 2)),)), after(ROOM, ("wait", Few.NONE, Few.TWO)),
        )

    def test_errors_and_names(self):
        for value in OTHERS + [UNSOUND]:
            for call in (is_remedy, after, weighed, heard_more, waits_that_keep):
                self.assert_error(InvalidPlan, [value], call, value, None)
            self.assert_error(InvalidPlan, [value], judged, value)
        self.assert_by_name(is_remedy, plan=ROOM, value=("free", 0))
        self.assert_by_name(after, plan=ROOM, remedy=("free", 0))
        self.assert_by_name(heard_more, plan=ROOM, counts=[4])
        self.assert_by_name(judged, plan=ROOM)
        self.assert_by_name(weighed, plan=ROOM, remedy=("free", 0))
        self.assert_by_name(waits_that_keep, plan=ROOM, meet=0)


class Heard(Case):
    def test_all_counts(self):
        for number in range(60):
            plan = made(number)
            bounds, left = let_bounds(plan)[len(plan[10]):], plan[8][1] - sum(plan[10])
            rng = random.Random(number)
            for _ in range(25):
                counts = [rng.choice([0, 0, 1, 1, 2, 3]) for _ in range(rng.randint(0, len(bounds) + 1))]
                wrong = [
                    at for at, count in enumerate(counts)
                    if at >= len(bounds) or count > bounds[at] or sum(counts[:at + 1]) > left
                ]
                if wrong:
                    self.assert_position(wrong[0], plan, counts)
                else:
                    expected = plan[:10] + (plan[10] + tuple(counts), plan[11])
                    self.assert_told(expected, heard_more, plan, counts)
                    self.assert_told(expected, heard_more, plan, tuple(counts))
                    self.assertTrue(is_plan(expected))

    def assert_position(self, position, plan, counts):
        with self.assertRaises(InvalidHeard) as held:
            heard_more(plan, counts)
        self.assertEqual(position, held.exception.position)
        self.assertIs(type(held.exception.position), type(position))

    def test_just_the_last_ride_and_beyond(self):
        plan = overview()
        self.assert_told(put_part(plan, "heard", (4, 0)), heard_more, plan, [4, 0])
        self.assert_position(2, plan, [4, 0, 0])
        full = put_part(plan, "heard", (4, 0))
        self.assert_told(full, heard_more, full, [])
        self.assert_position(0, full, [0])

    def test_budgets_and_rides_that_are_not_run(self):
        plan = plan_of([((0, 1), (5,), ())], [(0, (0,)), (0, (9,)), (0, (18,))], bounds=((5,), (5,), (5,)), budget=6)
        for counts, wrong in (
            ([5, 1, 0], None), ([5, 2, 0], 1), ([5, 1, 1], 2), ([6], 0), ([3, 3], None), ([3, 4, 9], 1), ([0, 0, 5], None),
        ):
            if wrong is None:
                self.assert_told(put_part(plan, "heard", tuple(counts)), heard_more, plan, counts)
            else:
                self.assert_position(wrong, plan, counts)
        dropped = after(plan, ("drop", 1))
        self.assert_position(1, dropped, [0, 1])
        self.assertEqual((5, 0, 1), heard_more(dropped, [5, 0, 1])[10])
        spent = put_part(plan, "heard", (5, 1))
        self.assert_position(0, spent, [1])
        self.assertEqual((5, 1, 0), heard_more(spent, [0])[10])

    def test_values_of_all_kinds(self):
        for value in OTHERS:
            if not isinstance(value, (list, tuple)):
                self.assert_position(None, ROOM, value)
            if type(value) is not int:
                self.assert_position(1, ROOM, [0, value])
                self.assert_position(0, ROOM, (value, value))
        for value in (-1, 10, 10 ** 29):
            self.assert_position(0, ROOM, [value])
        self.assert_same(put_part(ROOM, "heard", (1, 0)), heard_more(ROOM, [Few.ONE, Few.NONE]))


class Facts(Case):
    """[83], in all courses of small plans."""

    def small(self, count, **told):
        for number in range(count):
            plan = made(number, rides=5, bound=2, budget=3, **told)
            if len(courses(plan)) <= 40:
                yield plan

    def test_heard_rides_leave_and_arrive_as_before(self):
        for plan in self.small(150):
            many = len(plan[10])
            for remedy in can_now(plan):
                later = after(plan, remedy)
                for course in courses(later):
                    self.assertEqual(day(plan, course)[1][:many], day(later, course)[1][:many])
                ahead, behind = judged(plan), judged(later)
                self.assertEqual(set(ahead[2]) - set(behind[2]), set())
                # A promise that is gone has not broken within what was heard.
                for promise, course in ahead[1]:
                    if promise in behind[2]:
                        broken = [at for at, own, _ in day(plan, course)[3] if own == promise]
                        self.assertTrue(all(at >= many for at in broken))

    def test_in_either_sequence_they_lead_to_alike_plans(self):
        done = 0
        for plan in self.small(120):
            some = can_now(plan)
            for one in some:
                for other in some:
                    if one < other and one[:2] != other[:2] or one[0] not in ("wait",):
                        first, second = after(plan, one), after(plan, other)
                        if is_remedy(first, other) and is_remedy(second, one):
                            self.assertTrue(are_alike(after(first, other), after(second, one)), (plan, one, other))
                            done += 1
        self.assertGreater(done, 300)

    def test_the_last_one_of_two_waits_of_a_meet_counts(self):
        for plan in self.small(80):
            for remedy in can_now(plan):
                if remedy[0] == "wait":
                    twice = after(after(plan, ("wait", remedy[1], 1)), remedy)
                    for course in courses(plan):
                        self.assertEqual(day(after(plan, remedy), course), day(twice, course))
                    if waits(plan)[remedy[1]] == plan[6][remedy[1]][5]:
                        same = after(after(plan, remedy), ("wait", remedy[1], plan[6][remedy[1]][5]))
                        for course in courses(plan):
                            self.assertEqual(day(plan, course), day(same, course))

    def test_wait_0_and_free(self):
        done = 0
        for plan in self.small(100):
            for remedy in can_now(plan):
                if remedy[0] == "free":
                    meet = remedy[1]
                    free, none = after(plan, remedy), after(plan, ("wait", meet, 0))
                    for course in courses(plan):
                        self.assertEqual(day(free, course)[1], day(none, course)[1])
                        self.assertIsNone(day(free, course)[2][meet])
                        self.assertIsNotNone(day(none, course)[2][meet])
                        done += 1
        self.assertGreater(done, 200)

    def test_without_news_and_batteries_nothing_is_later(self):
        done = 0
        for plan in self.small(150, battery=False):
            plan = put_part(plan, "meets", tuple(meet[:6] + ("blind",) for meet in plan[6]))
            for remedy in can_now(plan):
                if remedy[0] != "wait" or remedy[2] <= waits(plan)[remedy[1]]:
                    later = after(plan, remedy)
                    for course in courses(later):
                        for one, other in zip(day(plan, course)[1], day(later, course)[1]):
                            if other[0] is not None:
                                self.assertTrue(other[0] <= one[0] and other[1] <= one[1])
                    words = [plan[7][at][0] for at in weighed(plan, remedy)[1]]
                    self.assertFalse({"leaves", "ends"} & set(words))
                    done += 1
        self.assertGreater(done, 300)


class Judging(Case):
    def known(self, plan):
        """(kept, fallen, gone) by all courses."""
        days = [(course, Reckoned(plan, course)) for course in courses(plan)]
        kept, fallen, away = [], [], []
        for at, promise in enumerate(plan[7]):
            broken = [course for course, known in days if at in {own for _, own, _ in known.breaks}]
            if is_away(days[0][1], promise):
                self.assertEqual([], broken)
                away.append(at)
            elif broken:
                fallen.append((at, least_of(broken)))
            else:
                kept.append(at)
        return kept, fallen, away

    def test_judged_and_weighed(self):
        seen = [0, 0, 0]
        late = put_part(overview(promises=(("leaves", 1, 0, 2), ("meets", 0))), "heard", (4,))
        plans = [CASE_A, CASE_B, CASE_C, late, put_part(case_e(None), "heard", (8, 6))]
        plans += [made(number, rides=5, bound=2, budget=3) for number in range(180)]
        for plan in [plan for plan in plans if len(courses(plan)) <= 60]:
            kept, fallen, away = self.known(plan)
            self.assert_told((kept, fallen, away), judged, plan)
            for remedy in can_now(plan):
                then = self.known(after(plan, remedy))
                expected = (
                    [at for at, _ in fallen if at in then[0]], [at for at, _ in then[1] if at in kept],
                    [at for at in then[2] if at not in away],
                )
                self.assert_told(expected, weighed, plan, remedy)
                seen = [many + len(own) for many, own in zip(seen, expected)]
        self.assertTrue(all(many > 2 for many in seen), seen)

    def test_what_a_spare_loses(self):
        plan = put_part(case_e(None), "heard", (8, 6))
        self.assert_told(([], [0], []), weighed, plan, ("spare", 2, 5))
        self.assert_told(([], [], []), weighed, plan, ("spare", 2, 6))
        self.assert_told(([], [], [0]), weighed, plan, ("free", 0))

    def test_the_example(self):
        plan = overview(promises=(("leaves", 1, 0, 2), ("meets", 0)))
        late = put_part(plan, "heard", (4,))
        self.assert_told(([1], [(0, [4, 0])], []), judged, late)
        self.assert_told(([0], [], [1]), weighed, late, ("free", 0))
        self.assert_told(([0], [1], []), weighed, late, ("wait", 0, 2))
        self.assertEqual(12, day(after(late, ("free", 0)), [4, 0])[1][1][0])
        self.assertEqual(12, day(after(late, ("wait", 0, 2)), [4, 0])[1][1][0])
        self.assertEqual(15, day(late, [4, 0])[1][1][0])

    def test_too_many(self):
        for what, limit, rows in (("standings", 4000, ROWS_4001), ("steps", 40000, STEPS_40001)):
            plan = wide(*rows, promises=(("ends", 0, 0),))
            many = len(rows[0])
            self.assert_error(TooMany, [what, limit], judged, plan)
            self.assert_error(TooMany, [what, limit], weighed, plan, ("drop", many))
            self.assert_error(TooMany, [what, limit], waits_that_keep, plan, 0)
            self.assert_error(InvalidRemedy, [("drop", 99)], weighed, plan, ("drop", 99))
            self.assert_error(InvalidMeet, [99], waits_that_keep, plan, 99)
            # Told first is what is too much of the plan, then of the plan after the remedy.
            fed = wide(*rows, promises=(("ends", 0, 0),))
            self.assertTrue(is_remedy(fed, ("drop", many)))
            gone_last = after(fed, ("drop", many))
            self.assertEqual(([], [(0, [1] + [0] * many)], []), judged(gone_last))

    def test_too_many_after_the_remedy_alone(self):
        # How late the first taker is is asked behind; without a wait it is never late, so there are fewer standings.
        plan = self.fed((9, 5, 5, 5, 3), 20, "blind")
        self.assertEqual(([], [(0, [0, 0, 0, 0, 0, 1, 0])], []), judged(plan))
        self.assert_error(TooMany, ["standings", 4000], weighed, plan, ("wait", 0, 60))
        self.assertEqual(([], [], []), weighed(plan, ("wait", 0, 1)))
        first = self.first_raised(plan)
        self.assertTrue(first[0] > 1)
        self.assert_error(TooMany, list(first[1:]), waits_that_keep, plan, 0)

    def test_what_is_told_of_the_least_wait(self):
        plan = self.fed((9, 9, 8, 5) + (0,) * 10, 20, "blind")
        self.assertEqual((7, "steps", 40000), self.first_raised(plan))
        self.assert_error(TooMany, ["steps", 40000], waits_that_keep, plan, 0)
        self.assert_error(TooMany, ["standings", 4000], judged, after(plan, ("wait", 0, 9)))

    def fed(self, bounds, budget, way):
        """A feeder and its taker, then trips that a last one is to meet, as it is the first taker."""
        many = len(bounds) - 1
        lines = [((0, 1), (10,), ()), ((1, 2), (10,), ())]
        trips = [(0, (0,)), (1, (10,))] + [(0, (30 * at + 30,)) for at in range(many)] + [(1, (30 * many + 40,))]
        meets = (("meet", 0, 0, 1, 0, 0, way), ("meet", 1, 0, many + 2, 0, 60, "blind"))
        meets += tuple(("meet", at + 2, 0, many + 2, 0, 0, "blind") for at in range(many))
        return plan_of(
            lines, trips, meets=meets, promises=(("ends", many + 1, 0),), budget=budget,
            bounds=((bounds[0],), (0,)) + tuple((bound,) for bound in bounds[1:]) + ((0,),), stops=3,
        )

    def first_raised(self, plan):
        """The least wait after which there is too much, and what."""
        for wait in range(61):
            try:
                judged(after(plan, ("wait", 0, wait)))
            except TooMany as error:
                return (wait, error.what, error.limit)
        raise AssertionError("nothing is raised")


class Waits(Case):
    def known(self, plan, meet):
        found = []
        for wait in range(61):
            later = plan[:11] + (plan[11] + ((len(plan[10]), ("wait", meet, wait)),),)
            if not any(Reckoned(later, course).breaks for course in courses(later)):
                found.append(wait)
        return found

    def test_against_all_courses(self):
        done = 0
        for number in range(120):
            plan = made(number, rides=5, bound=2, budget=3)
            if len(courses(plan)) > 15:
                continue
            for meet in range(len(plan[6])):
                if is_remedy(plan, ("wait", meet, 0)):
                    told = self.known(plan, meet)
                    self.assert_told(told, waits_that_keep, plan, meet)
                    done += 1
        self.assertGreater(done, 20)

    def test_waits_by_news(self):
        # The first feeder comes 4 late: up to 3 minutes nobody waits for it, as it is known that it comes too late.
        plan = plan_of(
            [((0, 1), (10,), ()), ((2, 1), (10,), ()), ((1, 3), (10,), ())], [(0, (2,)), (1, (2,)), (2, (12,))],
            meets=(("meet", 0, 0, 2, 0, 9, "news"), ("meet", 1, 0, 2, 0, 0, "blind")),
            promises=(("leaves", 2, 0, 2),), bounds=((9,), (0,), (0,)), budget=9, heard=(4,),
        )
        self.assertEqual([0, 1, 2, 3], self.known(plan, 0))
        self.assert_told([0, 1, 2, 3], waits_that_keep, plan, 0)
        blind = put_part(plan, "meets", (plan[6][0][:6] + ("blind",), plan[6][1]))
        self.assert_told([0, 1, 2], waits_that_keep, blind, 0)
        for promises in ((("meets", 1), ("leaves", 2, 0, 2)), (("meets", 0), ("leaves", 2, 0, 4)), (("meets", 0),), (("leaves", 2, 0, 4),)):
            own = put_part(plan, "promises", promises)
            self.assert_told(self.known(own, 0), waits_that_keep, own, 0)

    def test_others_stand_between_two_of_them(self):
        # A minute late the taker is waited for further on, two minutes late it is not.
        plan = plan_of(
            [((0, 1), (10,), ()), ((1, 2), (10,), ()), ((2, 3), (10,), ())], [(0, (2,)), (1, (12,)), (2, (22,))],
            meets=(("meet", 0, 0, 1, 0, 0, "blind"), ("meet", 1, 0, 2, 0, 1, "news")), promises=(("leaves", 2, 0, 0),),
            bounds=((2,), (0,), (0,)), budget=2, heard=(2,),
        )
        told = [0] + list(range(2, 61))
        self.assertEqual(told, self.known(plan, 0))
        self.assert_told(told, waits_that_keep, plan, 0)
        self.assert_told([0, *range(2, 61)], waits_that_keep, after(plan, ("wait", 0, 1)), 0)
        # Where it is not heard, but may be so, or a minute late alone.
        self.assert_told([0], waits_that_keep, put_part(plan, "heard", ()), 0)
        self.assert_told(list(range(61)), waits_that_keep, put_part(plan, "heard", (0,)), 0)

    def test_no_wait_keeps(self):
        plan = plan_of(
            [((0, 1), (10,), ()), ((2, 1), (10,), ()), ((1, 3), (10,), ())], [(0, (2,)), (1, (2,)), (2, (12,))],
            meets=(("meet", 0, 0, 2, 0, 0, "news"), ("meet", 1, 0, 2, 0, 0, "blind")), promises=(("meets", 1),),
            bounds=((6,), (2,), (0,)), budget=8, heard=(6, 2),
        )
        self.assert_told(list(range(6, 61)), waits_that_keep, plan, 0)
        late = put_part(plan, "promises", (("meets", 1), ("leaves", 2, 0, 5)))
        self.assert_told([], waits_that_keep, late, 0)
        two = put_part(plan, "heard", ())
        self.assert_told(self.known(two, 0), waits_that_keep, two, 0)

    def test_meets_that_cannot_wait(self):
        plan = overview()
        for value in NO_INTEGERS + [-1, 1, 10 ** 29]:
            self.assert_error(InvalidMeet, [value], waits_that_keep, plan, value)
        free = after(plan, ("free", 0))
        self.assert_error(InvalidMeet, [0], waits_that_keep, free, 0)
        heard = put_part(plan, "heard", (0, 0))
        self.assert_error(InvalidMeet, [0], waits_that_keep, heard, 0)
        self.assert_told([0, 1, 2], waits_that_keep, plan, Few.NONE)
        self.assert_told(list(range(61)), waits_that_keep, with_budget(plan, 2), 0)

    def test_the_documents_plans(self):
        for plan in (with_budget(SLACK, 3), with_budget(CASE_D, 4)):
            for meet in range(len(plan[6])):
                self.assert_told(self.known(plan, meet), waits_that_keep, plan, meet)


if __name__ == "__main__":
    unittest.main()
