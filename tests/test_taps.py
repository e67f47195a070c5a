"""[96] to [100]: travels, their passages and taps, all travels that fit, the charge, bills, refunds."""

import itertools
import random
import unittest

from citylines.errors import (
    InvalidAccount, InvalidCourse, InvalidPlan, InvalidTaps, InvalidTickets, InvalidTravels, Missed, TooMany,
)
from citylines.taps import (
    bill, charge, do_go, first_free, fitting, is_account, is_travel, refund, taps_of, told_passage, true_passage,
)
from citylines.tickets import cheapest, is_passage
from helpers import Case, Few, NO_INTEGERS, OTHERS, put
from reckon import Reckoned, all_rides, courses
from some_plans import made, put_part
from told_plans import CASE_B, RICH, overview, plan_of

UNSOUND = put_part(CASE_B, "promises", (("driven", 1, 29),))
# The plan of the interface.
SMALL = (
    "plan", ("city", (1, 1, 2), (0, 1, 0), ((0, 5, 9), (5, 0, 4), (9, 4, 0)), ((0, 2, 4), (2, 0, 2), (4, 2, 0))),
    (("line", (0, 1), (10,), (), 5), ("line", (1, 2), (8,), (), 5)), (("trip", 0, (0,)), ("trip", 1, (12,))),
    (("block", (0,), (), None), ("block", (1,), (), None)), (("duty", ((0, 0, 0),), ()), ("duty", ((1, 0, 0),), ())),
    (("meet", 0, 0, 1, 0, 3, "news"),), (("leaves", 1, 0, 2),), (((9,), (0,)), 9), None, (), (),
)
HOUR, TWO, DAY = ("ticket", 300, 60, (1, 2), 1), ("ticket", 500, 60, (1, 2), 2), ("ticket", 700, 1440, (1, 2), 1)
ALL = ("ticket", 9, 60, (1, 2, 3, 4), 1)
LONG = ("ticket", 25, 600, (1, 2, 3, 4), 2)


class Gone:
    """A day, and who goes by it: passages, taps, travels that go, by the definitions."""

    def __init__(self, plan, course):
        self.plan, self.known = plan, Reckoned(plan, course)

    def travels(self):
        return [
            (trip, first, last) for trip, row in enumerate(self.plan[3])
            for first in range(len(row[2])) for last in range(first, len(row[2]))
        ]

    def stops(self, travel):
        trip, first, last = travel
        return self.plan[2][self.plan[3][trip][1]][1][first:last + 2]

    def zones(self, travel):
        return tuple(sorted({self.plan[1][1][stop] for stop in self.stops(travel)}))

    def told(self, travel):
        trip, first, last = travel
        return (self.known.told((trip, first)), self.known.told((trip, last)) + self.known.least((trip, last)), self.zones(travel))

    def true(self, travel):
        trip, first, last = travel
        if any((trip, hop) in self.known.off for hop in range(first, last + 1)):
            return None
        return (self.known.left[trip, first], self.known.come[trip, last], self.zones(travel))

    def stuck(self, travels):
        for place, travel in enumerate(travels):
            own = self.true(travel)
            if own is None or (place > 0 and own[0] < self.true(travels[place - 1])[1]):
                return place
        return None

    def taps(self, travels):
        found = []
        for travel in travels:
            departure, arrival, _ = self.true(travel)
            stops = self.stops(travel)
            found.extend([(departure, stops[0], "in"), (arrival, stops[-1], "out")])
        return found

    def rows(self, most):
        """All travels, at most so many, one behind another, that go."""
        found = [[]]
        some = [travel for travel in self.travels() if self.true(travel) is not None]
        ahead = [[]]
        for _ in range(most):
            ahead = [row + [travel] for row in ahead for travel in some if not row or self.true(travel)[0] >= self.true(row[-1])[1]]
            found.extend(ahead)
        return found

    def fits(self, travels, heard):
        taps = self.taps(travels)
        if not 0 <= len(taps) - len(heard) <= 3:
            return False
        for lost in itertools.combinations(range(len(taps)), len(taps) - len(heard)):
            if len({at // 2 for at in lost}) == len(lost) and [tap for at, tap in enumerate(taps) if at not in lost] == heard:
                return True
        return False


def some(count, **told):
    for number in range(count):
        plan = made(number, rides=7, **told)
        rng = random.Random(number)
        all_of_it = courses(plan)
        for course in rng.sample(all_of_it, min(2, len(all_of_it))):
            yield rng, plan, course, Gone(plan, course)


def taken(rng, gone, most=4):
    """Some travels that go, one behind another."""
    row = []
    for _ in range(rng.randint(0, most)):
        ready = gone.true(row[-1])[1] if row else 0
        ways = [travel for travel in gone.travels() if gone.true(travel) is not None and gone.true(travel)[0] >= ready]
        if ways:
            row.append(rng.choice(ways))
    return row


class Travels(Case):
    def test_passages(self):
        none = 0
        for rng, plan, course, gone in some(120):
            for travel in gone.travels():
                self.assert_yes(is_travel, plan, travel)
                self.assert_told(gone.told(travel), told_passage, plan, travel)
                self.assert_told(gone.true(travel), true_passage, plan, course, travel)
                self.assert_yes(is_passage, told_passage(plan, travel))
                none += gone.true(travel) is None
        self.assertGreater(none, 50)

    def test_zones_each_once_and_rising(self):
        plan = plan_of([((0, 1, 2, 0), (5, 5, 5), (0, 0))], [(0, (0, 5, 10))], stops=3)
        for zones, told in (((4, 1, 4), (1, 4)), ((1, 1, 1), (1,)), ((3, 2, 1), (1, 2, 3))):
            own = put_part(plan, "city", put(plan[1], (1,), zones))
            self.assertEqual(told, told_passage(own, (0, 0, 2))[2])
            self.assertEqual(tuple(sorted({zones[1], zones[2]})), told_passage(own, (0, 1, 1))[2])

    def test_values_of_all_kinds(self):
        plan = RICH
        self.assert_yes(is_travel, plan, (0, 0, 1))
        self.assert_yes(is_travel, plan, (Few.NONE, Few.NONE, Few.ONE))
        wrong = OTHERS + [[0, 0, 1], (0, 1, 0), (0, 0, 2), (6, 0, 0), (-1, 0, 0), (0, -1, 0), (1, 0, 1), (0, 0), (0, 0, 1, 1)]
        wrong += [put((0, 0, 1), (at,), value) for at in range(3) for value in NO_INTEGERS]
        course = [1, 0] + [0] * 7
        for value in wrong:
            self.assert_no(is_travel, plan, value)
            self.assert_error(InvalidTravels, [value], told_passage, plan, value)
            self.assert_error(InvalidTravels, [value], true_passage, plan, course, value)
            for call in (do_go, taps_of, first_free):
                self.assert_error(InvalidTravels, [(value,)], call, plan, course, (value,))
            self.assert_no(is_account, plan, ("account", (HOUR,), ((value,),)))
        for value in [value for value in OTHERS if type(value) not in (list, tuple) or len(value) > 0] + [[(0, 0, 0)] * 11]:
            for call in (do_go, taps_of, first_free):
                self.assert_error(InvalidTravels, [value], call, plan, course, value)

    def test_going_and_taps(self):
        stuck = 0
        for rng, plan, course, gone in some(150):
            for _ in range(6):
                travels = rng.choice([taken(rng, gone), [rng.choice(gone.travels()) for _ in range(rng.randint(1, 4))]])
                place = gone.stuck(travels)
                self.assert_told(place is None, do_go, plan, course, travels)
                self.assert_told(place is None, do_go, plan, course, tuple(travels))
                if place is None:
                    self.assert_told(gone.taps(travels), taps_of, plan, course, travels)
                    self.assert_told(gone.taps(travels), taps_of, plan, tuple(course), tuple(travels))
                else:
                    stuck += 1
                    for call in (taps_of, first_free):
                        self.assert_missed(0, place, call, plan, course, travels)
        self.assertGreater(stuck, 100)

    def assert_missed(self, rider, place, call, *arguments):
        with self.assertRaises(Missed) as held:
            call(*arguments)
        self.assertEqual((rider, place), (held.exception.rider, held.exception.place))

    def test_just_in_time_and_a_minute_late(self):
        plan = plan_of([((0, 1), (10,), ()), ((1, 2), (8,), ())], [(0, (0,)), (1, (12,))], bounds=((9,), (0,)), budget=9)
        both = [(0, 0, 0), (1, 0, 0)]
        for late, told in ((0, True), (2, True), (3, False), (9, False)):
            self.assertIs(do_go(plan, [late, 0], both), told)
            self.assert_no(do_go, plan, [late, 0], both[::-1])
            self.assert_no(do_go, plan, [late, 0], [both[0], both[0]])
            if not told:
                self.assert_missed(0, 1, taps_of, plan, [late, 0], both)
            self.assert_missed(0, 1, taps_of, plan, [late, 0], both[::-1])
        self.assert_told([], taps_of, plan, [0, 0], [])
        self.assert_told(True, do_go, plan, [0, 0], [])
        self.assert_told(None, first_free, plan, [0, 0], [])

    def test_ten_and_eleven(self):
        lines = [((0, 1), (2,), ())]
        plan = plan_of(lines, [(0, (3 * at,)) for at in range(11)])
        course, row = [0] * 11, [(at, 0, 0) for at in range(11)]
        self.assert_yes(do_go, plan, course, row[:10])
        self.assertEqual(20, len(taps_of(plan, course, row[:10])))
        self.assert_error(InvalidTravels, [row], do_go, plan, course, row)

    def test_rides_that_are_not_run(self):
        plan = plan_of(
            [((0, 1, 2, 3), (5, 5, 5), (0, 0)), ((3, 1), (5,), ())], [(0, (0, 5, 10)), (1, (60,))],
            remedies=((0, ("cut", 0, 1)), (0, ("drop", 1))),
        )
        course = [0] * 4
        for travel, told in (((0, 0, 1), (0, 10, (1,))), ((0, 0, 2), None), ((0, 2, 2), None), ((1, 0, 0), None), ((0, 1, 1), (5, 10, (1,)))):
            self.assert_told(told, true_passage, plan, course, travel)
        self.assert_told((0, 15, (1,)), told_passage, plan, (0, 0, 2))
        self.assert_missed(0, 0, taps_of, plan, course, [(0, 0, 2)])
        self.assert_missed(0, 1, taps_of, plan, course, [(0, 0, 1), (1, 0, 0)])
        self.assert_missed(0, 1, taps_of, plan, course, [(0, 0, 1), (0, 0, 0), (1, 0, 0)])

    def test_errors_and_names(self):
        for value in OTHERS + [UNSOUND]:
            self.assert_error(InvalidPlan, [value], is_travel, value, None)
            self.assert_error(InvalidPlan, [value], told_passage, value, None)
            self.assert_error(InvalidPlan, [value], is_account, value, None)
            for call, more in (
                (true_passage, 1), (do_go, 1), (taps_of, 1), (first_free, 1), (fitting, 1), (charge, 2), (bill, 1), (refund, 1),
            ):
                self.assert_error(InvalidPlan, [value], call, value, None, *[None] * more)
                self.assert_error(InvalidCourse, [value], call, SMALL, value, *[None] * more)
        both = [(0, 0, 0), (1, 0, 0)]
        told = dict(plan=SMALL, course=[3, 0])
        self.assert_by_name(is_travel, plan=SMALL, value=(1, 0, 0))
        self.assert_by_name(told_passage, plan=SMALL, travel=(1, 0, 0))
        self.assert_by_name(true_passage, **told, travel=(1, 0, 0))
        for call in (do_go, taps_of, first_free):
            self.assert_by_name(call, **told, travels=both)
        self.assert_by_name(fitting, **told, taps=[(14, 1, "in")])
        self.assert_by_name(charge, **told, tickets=[HOUR], taps=[(14, 1, "in")])
        account = ("account", (HOUR,), (tuple(both),))
        self.assert_by_name(is_account, plan=SMALL, value=account)
        for call in (bill, refund):
            self.assert_by_name(call, **told, account=account)
        own = put_part(SMALL, "trips", (("trip", Few.NONE, (Few.NONE,)), ("trip", Few.ONE, (12,))))
        self.assert_same((0, 10, (1,)), told_passage(own, (Few.NONE, Few.NONE, Few.NONE)))
        self.assert_same((0, 12, (1,)), true_passage(own, [Few.TWO, 0], (Few.NONE, Few.NONE, Few.NONE)))
        self.assert_same([(0, 0, "in"), (12, 1, "out")], taps_of(own, [Few.TWO, 0], [(Few.NONE, Few.NONE, Few.NONE)]))
        self.assert_same([[(0, 0, 0)]], fitting(own, [0, 0], [(Few.NONE, Few.NONE, "in"), (10, Few.ONE, "out")]))


class Fits(Case):
    def assert_fits(self, plan, course, gone, heard, rows):
        told = sorted(row for row in rows if gone.fits(row, heard))
        self.assert_told(told, fitting, plan, course, heard)
        self.assert_told(told, fitting, plan, tuple(course), tuple(heard))
        prices = [cheapest([ALL, LONG], [gone.true(travel) for travel in row]) for row in told]
        expected = min((price for price in prices if price is not None), default=None)
        self.assert_told(expected, charge, plan, course, [ALL, LONG], heard)
        return told

    def test_against_all_rows_of_travels(self):
        many = 0
        for number in range(60):
            plan = made(number, rides=6)
            rng = random.Random(number)
            for course in rng.sample(courses(plan), 1):
                gone = Gone(plan, course)
                rows = gone.rows(6)
                if len(rows) > 2500:
                    continue
                for _ in range(12):
                    travels = taken(rng, gone)
                    taps = gone.taps(travels)
                    heard = [tap for tap in taps if rng.random() < 0.75]
                    told = self.assert_fits(plan, course, gone, heard, rows)
                    # Of true travels some are lost wholly: the others fit, where at most three further taps are lost.
                    rest = [travel for place, travel in enumerate(travels) if taps[2 * place] in heard or taps[2 * place + 1] in heard]
                    if 2 * len(rest) - len(heard) <= 3:
                        self.assertIn(rest, told)
                    many += len(told) > 1
        self.assertGreater(many, 100)

    def test_a_minute_a_stop_a_word_otherwise(self):
        for number in range(40):
            plan = made(number, rides=6)
            rng = random.Random(number)
            course = rng.choice(courses(plan))
            gone = Gone(plan, course)
            rows = gone.rows(5)
            if len(rows) > 1500:
                continue
            for _ in range(6):
                heard = gone.taps(taken(rng, gone, 2))
                for at, (minute, stop, word) in enumerate(heard):
                    spoilt = [(minute + 1, stop, word), (minute, (stop + 1) % len(plan[1][1]), word), (minute, stop, "out" if word == "in" else "in")]
                    for tap in spoilt:
                        other = put(heard, (at,), tap)
                        if [own[0] for own in other] == sorted(own[0] for own in other):
                            self.assert_fits(plan, course, gone, other, rows)

    def test_an_in_alone_may_be_the_begin_of_any(self):
        plan = plan_of([((0, 1, 2, 3), (5, 5, 5), (0, 0))], [(0, (0, 5, 10))])
        course = [0, 0, 0]
        self.assert_told([[(0, 0, 0)], [(0, 0, 1)], [(0, 0, 2)]], fitting, plan, course, [(0, 0, "in")])
        self.assert_told([[(0, 0, 2)], [(0, 1, 2)], [(0, 2, 2)]], fitting, plan, course, [(15, 3, "out")])
        # One travel, or two of which one tap each is lost.
        told = [[(0, 0, 0), (0, 1, 2)], [(0, 0, 0), (0, 2, 2)], [(0, 0, 1), (0, 2, 2)], [(0, 0, 2)]]
        self.assert_told(told, fitting, plan, course, [(0, 0, "in"), (15, 3, "out")])
        self.assert_told([[]], fitting, plan, course, [])
        self.assert_told([], fitting, plan, course, [(1, 0, "in")])
        self.assert_told([], fitting, plan, course, [(15, 3, "in")])

    def test_three_lost_and_four(self):
        lines = [((0, 1), (2,), ())]
        plan = plan_of(lines, [(0, (3 * at,)) for at in range(11)])
        course, row = [0] * 11, [(at, 0, 0) for at in range(10)]
        taps = taps_of(plan, course, row)
        self.assert_told([row], fitting, plan, course, taps)
        for lost in ((0,), (3, 8), (1, 2, 4), (0, 2, 19)):
            self.assert_told([row], fitting, plan, course, [tap for at, tap in enumerate(taps) if at not in lost])
        for lost in ((0, 2, 4, 6), (1, 3, 5, 7)):
            self.assert_told([], fitting, plan, course, [tap for at, tap in enumerate(taps) if at not in lost])
        for lost in ((0, 1), (4, 5), (18, 19), (0, 1, 10, 11), (0, 1, 2, 3, 18, 19, 5)):
            told = [travel for place, travel in enumerate(row) if not {2 * place, 2 * place + 1} <= set(lost)]
            self.assert_told([told], fitting, plan, course, [tap for at, tap in enumerate(taps) if at not in lost])

    def test_ten_travels_at_most(self):
        # Twenty taps of ten travels and more: with one lone tap each, eleven travels would fit.
        plan = plan_of([((0, 1), (2,), ())], [(0, (3 * at,)) for at in range(12)])
        course = [0] * 12
        ins = [(3 * at, 0, "in") for at in range(12)]
        outs = [(3 * at + 2, 1, "out") for at in range(12)]
        for many in range(8, 12):
            whole = sorted(ins[:many] + outs[:many])
            for lost in range(4):
                heard = [tap for tap in whole if tap not in outs[:lost]]
                if len(heard) <= 20:
                    told = [[(at, 0, 0) for at in range(many)]] if many <= 10 else []
                    self.assert_told(told, fitting, plan, course, heard)

    def test_just_400_and_401(self):
        # A lone "in" may end behind each of five hops of four trips, a lone "out" begin ahead of each of as many.
        lines = [((0, 1, 0, 1, 0, 1), (1,) * 5, (0,) * 4)] * 4
        trips = [(line, tuple(range(5))) for line in range(4)] + [(line, tuple(range(10, 15))) for line in range(4)]
        heard = [(0, 0, "in"), (15, 1, "out")]
        plan = plan_of(lines, trips, stops=2)
        found = fitting(plan, [0] * 40, heard)
        self.assertEqual(400, len(found))
        self.assertEqual(sorted(found), found)
        self.assertEqual(18, charge(plan, [0] * 40, [put(ALL, (2,), 9)], heard))
        # One trip more goes from the one to the other.
        more = plan_of(lines + [((0, 1), (15,), ())], trips + [(4, (0,))], stops=2)
        self.assert_error(TooMany, ["fits", 400], fitting, more, [0] * 41, heard)
        self.assert_error(TooMany, ["fits", 400], charge, more, [0] * 41, [HOUR], heard)
        self.assert_error(InvalidTickets, [None], charge, more, [0] * 41, None, heard)
        self.assertEqual(21, len(fitting(more, [0] * 41, heard[:1])))

    def test_many_fits_of_three_lone_taps(self):
        for hops, many in (((5, 5, 4), 100), ((7, 7, 7), 343), ((7, 7, 6), 294)):
            lines = [(tuple(at % 2 for at in range(own + 1)), (1,) * own, (0,) * (own - 1)) for own in hops]
            trips = [(line, tuple(range(20 * line, 20 * line + own))) for line, own in enumerate(hops)]
            plan = plan_of(lines, trips, stops=2)
            heard = [(20 * line, 0, "in") for line in range(3)]
            self.assertEqual(many, len(fitting(plan, [0] * sum(hops), heard)))
        # With a like trip beside the first one there are twice as many.
        lines = [((0, 1, 0, 1, 0, 1, 0, 1), (1,) * 7, (0,) * 6)] * 4
        trips = [(line, tuple(range(20 * begin, 20 * begin + 7))) for line, begin in ((0, 0), (1, 1), (2, 2), (3, 0))]
        twice = plan_of(lines, trips, stops=2)
        self.assert_error(TooMany, ["fits", 400], fitting, twice, [0] * 28, [(0, 0, "in"), (20, 0, "in"), (40, 0, "in")])
        self.assertEqual(98, len(fitting(twice, [0] * 28, [(0, 0, "in"), (20, 0, "in")])))

    def test_many_dead_ends_are_told_soon(self):
        # Six like trips at each of ten times: no way through, as the last tap is heard a minute off.
        lines = [((0, 1, 0, 1, 0, 1), (5,) * 5, (0,) * 4)] * 8
        trips = [(line, tuple(5 * at for at in range(5))) for line in range(8)]
        plan = plan_of(lines, trips, stops=2)
        heard = []
        for at in range(5):
            heard.extend([(5 * at, at % 2, "in"), (5 * at + 5, (at + 1) % 2, "out")])
        course = [0] * 40
        self.assert_told([], fitting, plan, course, heard + [(99, 0, "out")])
        self.assert_error(TooMany, ["fits", 400], fitting, plan, course, heard)

    def test_charges(self):
        self.assert_told(0, charge, SMALL, [3, 0], [HOUR], [])
        self.assert_told(None, charge, SMALL, [3, 0], [HOUR], [(13, 0, "in")])
        self.assert_told(None, charge, SMALL, [3, 0], [put(HOUR, (3,), (1,))], [(14, 1, "in")])
        self.assert_told(300, charge, SMALL, [3, 0], [put(HOUR, (3,), (1,))], [(0, 0, "in")])
        self.assert_told(300, charge, SMALL, [3, 0], (HOUR,), ((14, 1, "in"),))
        # The least of all that fit, of those that have a cover.
        plan = plan_of([((0, 1, 2), (5, 5), (0,))], [(0, (0, 5))])
        plan = put_part(plan, "city", put(plan[1], (1,), (1, 2, 3, 1)))
        one, all_zones = ("ticket", 9, 60, (1, 2), 1), ("ticket", 5, 60, (1, 2, 3), 1)
        self.assert_told(9, charge, plan, [0, 0], [one], [(0, 0, "in")])
        self.assert_told(5, charge, plan, [0, 0], [one, all_zones], [(0, 0, "in")])
        self.assert_told(None, charge, plan, [0, 0], [one], [(0, 0, "in"), (10, 2, "out")])

    def test_never_above_the_true_travels(self):
        for number in range(50):
            plan = made(number, rides=6)
            rng = random.Random(number)
            course = rng.choice(courses(plan))
            gone = Gone(plan, course)
            for _ in range(8):
                travels = taken(rng, gone)
                true = cheapest([ALL, LONG], [gone.true(travel) for travel in travels])
                taps = gone.taps(travels)
                away = [place for place in range(len(travels)) if rng.random() < 0.3]
                lost, left = [], [place for place in range(len(travels)) if place not in away]
                for place in rng.sample(left, min(len(left), rng.randint(0, 3))):
                    lost.append(2 * place + rng.randint(0, 1))
                heard = [tap for at, tap in enumerate(taps) if at // 2 not in away and at not in lost]
                self.assertLessEqual(charge(plan, course, [ALL, LONG], heard), true)

    def test_values_that_are_no_taps(self):
        right = [(0, 0, "in"), (13, 1, "out")]
        fitting(SMALL, [3, 0], right)
        wrong = [value for value in OTHERS if type(value) not in (list, tuple) or len(value) > 0]
        wrong += [right[::-1], [(5, 0, "in"), (3, 2, "out")], right + [(14, 1, "in"), (13, 2, "out")], [(0, 0, "in")] * 21, [(0, 3, "in")], [(0, -1, "in")], [(-1, 0, "in")], [(10000, 0, "in")]]
        wrong += [[(0, 0, "In")], [(0, 0)], [(0, 0, "in", 0)], [[0, 0, "in"]], [(0, 0, "in"), None]]
        wrong += [[(value, 0, "in")] for value in NO_INTEGERS] + [[(0, value, "in")] for value in NO_INTEGERS]
        wrong += [((0, 0, value),) for value in OTHERS]
        for value in wrong:
            self.assert_error(InvalidTaps, [value], fitting, SMALL, [3, 0], value)
            self.assert_error(InvalidTaps, [value], charge, SMALL, [3, 0], [HOUR], value)
        for value in [value for value in OTHERS if type(value) not in (list, tuple) or len(value) > 0] + [[], ()]:
            self.assert_error(InvalidTickets, [value], charge, SMALL, [3, 0], value, None)
        self.assert_told([], fitting, SMALL, [3, 0], [(9999, 2, "out")])
        self.assert_told([], fitting, SMALL, [3, 0], [(0, 0, "in")] * 20)


class Bills(Case):
    def by_all(self, tickets, passages):
        return cheapest(list(tickets), list(passages))

    def known_bill(self, gone, account):
        travels = [travel for rider in account[2] for travel in rider]
        told = self.by_all(account[1], [gone.told(travel) for travel in travels])
        true = self.by_all(account[1], [gone.true(travel) for travel in travels])
        return None if told is None else min(told, true)

    def free_from(self, gone, travels):
        known, plan = gone.known, gone.plan
        for place in range(1, len(travels)):
            (ahead, _, last), (trip, first, _) = travels[place - 1:place + 1]
            for number, (_, feeder, behind, taker, hop, _, _) in enumerate(plan[6]):
                if ("meets", number) in plan[7] and number not in known.gone_meets and not known.made[number]:
                    lines = [plan[3][own][1] for own in (trip, taker)]
                    if (ahead, last) == (feeder, behind) and first == hop and lines[0] == lines[1] and trip > taker:
                        return place
        return None

    def assert_account(self, plan, course, account):
        gone = Gone(plan, course)
        stuck = [gone.stuck(rider) for rider in account[2]]
        if any(place is not None for place in stuck):
            rider = next(at for at, place in enumerate(stuck) if place is not None)
            for call in (bill, refund):
                with self.assertRaises(Missed) as held:
                    call(plan, course, account)
                self.assertEqual((rider, stuck[rider]), (held.exception.rider, held.exception.place))
            return None
        whole = self.known_bill(gone, account)
        self.assert_told(whole, bill, plan, course, account)
        places = [self.free_from(gone, rider) for rider in account[2]]
        for rider, place in zip(account[2], places):
            self.assert_told(place, first_free, plan, course, list(rider))
        paid = ("account", account[1], tuple(rider[:place] for rider, place in zip(account[2], places)))
        told = None if whole is None else whole - self.known_bill(gone, paid)
        self.assert_told(told, refund, plan, course, account)
        self.assertTrue(told is None or told >= 0)
        return told

    def test_against_the_definitions(self):
        for number in range(220):
            plan = made(number, rides=7)
            plan = put_part(plan, "promises", tuple(("meets", meet) for meet in range(len(plan[6]))))
            rng = random.Random(number)
            for course in rng.sample(courses(plan), min(2, len(courses(plan)))):
                gone = Gone(plan, course)
                for _ in range(4):
                    riders = tuple(tuple(taken(rng, gone, 2)) for _ in range(rng.randint(1, 5)))
                    if rng.random() < 0.2:
                        riders = put(riders, (rng.randrange(len(riders)),), tuple(rng.choice(gone.travels()) for _ in range(2)))
                    tickets = tuple(rng.sample([ALL, LONG, put(ALL, (3,), (1, 2))], rng.randint(1, 3)))
                    account = ("account", tickets, riders)
                    if sum(len(rider) for rider in riders) <= 10:
                        self.assert_yes(is_account, plan, account)
                        self.assert_account(plan, course, account)

    # A feeder and three takers of one line, told to leave at 12, 20 and 30; one more line leaves at 20 as well.
    MISSED = plan_of(
        [((0, 1), (10,), ()), ((1, 2), (8,), ()), ((2, 3), (5,), ()), ((1, 3), (5,), ())],
        [(0, (0,)), (1, (12,)), (1, (20,)), (1, (30,)), (2, (40,)), (3, (20,))],
        meets=(("meet", 0, 0, 1, 0, 3, "news"),), promises=(("meets", 0),), bounds=((9,), (0,), (0,), (0,), (0,), (0,)), budget=9,
    )

    def test_missed_promised_meets(self):
        plan = self.MISSED
        for late, row, place in (
            (6, ((0, 0, 0), (2, 0, 0)), 1), (6, ((0, 0, 0), (3, 0, 0)), 1), (6, ((0, 0, 0), (3, 0, 0), (4, 0, 0)), 1),
            (6, ((0, 0, 0), (5, 0, 0)), None), (6, ((0, 0, 0), (4, 0, 0)), None), (5, ((0, 0, 0), (2, 0, 0)), None),
            (5, ((0, 0, 0), (1, 0, 0)), None), (6, ((2, 0, 0), (4, 0, 0)), None), (6, ((0, 0, 0),), None), (6, ((2, 0, 0),), None), (6, (), None),
        ):
            course = [late, 0, 0, 0, 0, 0]
            self.assert_told(place, first_free, plan, course, row)
            account = ("account", (("ticket", 7, 10, (1,), 1), ("ticket", 11, 60, (1,), 1)), (row,))
            told = self.assert_account(plan, course, account)
            self.assertEqual(place is not None, told > 0)
        # A meet that is not promised, or gone, frees nobody.
        bare = put_part(plan, "promises", (("leaves", 1, 0, 3),))
        self.assert_told(None, first_free, bare, [6, 0, 0, 0, 0, 0], [(0, 0, 0), (2, 0, 0)])
        freed = put_part(plan, "remedies", ((0, ("free", 0)),))
        self.assert_told(None, first_free, freed, [6, 0, 0, 0, 0, 0], [(0, 0, 0), (2, 0, 0)])
        waiting = put_part(plan, "remedies", ((0, ("wait", 0, 9)),))
        self.assert_told(None, first_free, waiting, [6, 0, 0, 0, 0, 0], [(0, 0, 0), (2, 0, 0)])

    def test_hops_of_free_travels(self):
        # The feeder's riders must get off behind the meet's hop, and get on at the taker's hop.
        plan = plan_of(
            [((0, 1, 3), (5, 5), (0,)), ((2, 1, 0), (5, 8), (0,))], [(0, (0, 5)), (1, (0, 6)), (1, (20, 26)), (0, (8, 60))],
            meets=(("meet", 0, 0, 1, 1, 0, "blind"),), promises=(("meets", 0),), bounds=((9, 0), (0, 0), (0, 0), (0, 0)), budget=9,
        )
        course = [9 if ride == (0, 0) else 0 for ride in all_rides(plan[3])]
        for row, place in (
            ([(0, 0, 0), (2, 1, 1)], 1), ([(0, 0, 1), (2, 1, 1)], None), ([(0, 0, 0), (2, 0, 0)], None), ([(0, 0, 0), (2, 0, 1)], None),
            ([(0, 0, 0), (2, 1, 1), (3, 1, 1)], 1), ([(0, 0, 0), (3, 1, 1), (2, 1, 1)], None),
        ):
            if do_go(plan, course, row):
                self.assert_told(place, first_free, plan, course, row)
        self.assertTrue(do_go(plan, course, [(0, 0, 0), (2, 1, 1)]))

    def test_told_and_true_wholes(self):
        # By told minutes one ticket covers both, by true ones not; and the other way round.
        plan = plan_of(
            [((0, 1), (10,), ()), ((1, 2), (10,), ())], [(0, (0,)), (1, (30,))], bounds=((0,), (0,)), budget=0,
            blocks=(("block", (0,), (), None), ("block", (1,), (), None)),
        )
        self.assertEqual(30, bill(plan, [0, 0], ("account", (("ticket", 30, 31, (1,), 1),), (((0, 0, 0), (1, 0, 0)),))))
        self.assertEqual(60, bill(plan, [0, 0], ("account", (("ticket", 30, 30, (1,), 1),), (((0, 0, 0), (1, 0, 0)),))))
        late = plan_of(
            [((0, 1), (10,), ()), ((1, 2), (10,), ())], [(0, (0,)), (1, (12,))], meets=(("meet", 0, 0, 1, 0, 9, "blind"),),
            bounds=((5,), (0,)), budget=5,
        )
        ticket = (("ticket", 30, 13, (1,), 1),)
        account = ("account", ticket, (((0, 0, 0), (1, 0, 0)),))
        self.assertEqual([30, 30, 30], [bill(late, [delay, 0], account) for delay in (0, 2, 5)])
        self.assertEqual([300, 300], [bill(SMALL, [delay, 0], ("account", (HOUR,), (((0, 0, 0), (1, 0, 0)),))) for delay in (0, 3)])

    def test_accounts(self):
        travels = ((0, 0, 0), (1, 0, 0))
        account = ("account", (HOUR, TWO), (travels, ()))
        self.assert_yes(is_account, SMALL, account)
        self.assert_yes(is_account, SMALL, ("account", (HOUR,) * 8, ((),)))
        self.assert_yes(is_account, SMALL, ("account", (HOUR,), (travels,) * 5))
        self.assert_no(is_account, SMALL, ("account", (HOUR,), (travels,) * 5 + ((),)))
        self.assert_no(is_account, SMALL, ("account", (HOUR,), (travels,) * 4 + (travels + travels[:1],)))
        wrong = OTHERS + [list(account), account[:2], account + (0,), ("Account",) + account[1:], put(account, (1,), [HOUR, TWO])]
        wrong += [put(account, (2,), [travels]), put(account, (2, 0), list(travels)), put(account, (2,), ()), put(account, (1,), ())]
        wrong += [put(account, (1,), (HOUR,) * 9), put(account, (2, 0, 0), [0, 0, 0]), put(account, (2, 0, 0), (0, 0, 1)), put(account, (2, 0, 0), (2, 0, 0))]
        wrong += [("account", value, (travels,)) for value in OTHERS] + [("account", (HOUR,), (value,)) for value in OTHERS if type(value) is not tuple or value]
        wrong += [("account", (value,), (travels,)) for value in OTHERS] + [(value,) + account[1:] for value in OTHERS]
        for value in wrong:
            self.assert_no(is_account, SMALL, value)
            self.assert_error(InvalidAccount, [value], bill, SMALL, [3, 0], value)
            self.assert_error(InvalidAccount, [value], refund, SMALL, [3, 0], value)
        self.assert_told(500, bill, SMALL, [3, 0], ("account", (HOUR, TWO, DAY), (travels, travels[1:])))

    def test_the_first_rider_and_the_first_place(self):
        right, late, turned = ((0, 0, 0), (1, 0, 0)), ((1, 0, 0), (0, 0, 0)), ((0, 0, 0), (0, 0, 0), (1, 0, 0))
        for riders, told in (((late, turned), (0, 1)), ((right, turned), (1, 1)), ((right, (), late), (2, 1))):
            for call in (bill, refund):
                with self.assertRaises(Missed) as held:
                    call(SMALL, [3, 0], ("account", (HOUR,), riders))
                self.assertEqual(told, (held.exception.rider, held.exception.place))
        with self.assertRaises(Missed) as held:
            bill(SMALL, [9, 0], ("account", (HOUR,), (right,)))
        self.assertEqual((0, 1), (held.exception.rider, held.exception.place))

    def test_no_cover(self):
        account = ("account", (put(HOUR, (3,), (1,)),), (((0, 0, 0), (1, 0, 0)),))
        self.assert_told(None, bill, SMALL, [3, 0], account)
        self.assert_told(None, refund, SMALL, [3, 0], account)
        self.assert_told(0, bill, SMALL, [3, 0], ("account", (HOUR,), ((), ())))
        self.assert_told(0, refund, SMALL, [3, 0], ("account", (HOUR,), ((),)))

    def test_never_above_told_and_true(self):
        for rng, plan, course, gone in some(60):
            riders = tuple(tuple(taken(rng, gone, 3)) for _ in range(3))
            account = ("account", (ALL, LONG), riders)
            travels = [travel for rider in riders for travel in rider]
            for passages in (map(gone.told, travels), map(gone.true, travels)):
                self.assertLessEqual(bill(plan, course, account), cheapest([ALL, LONG], list(passages)))
            self.assertLessEqual(
                self.by_all((ALL, LONG), map(gone.true, travels)),
                sum(self.by_all((ALL, LONG), map(gone.true, rider)) for rider in riders),
            )

    def test_the_example(self):
        both = [(0, 0, 0), (1, 0, 0)]
        account = ("account", (HOUR, TWO, DAY), (tuple(both), ((1, 0, 0),)))
        self.assert_told([500, 0, None], lambda: [bill(SMALL, [3, 0], account), refund(SMALL, [3, 0], account), first_free(SMALL, [3, 0], both)])
        self.assert_account(SMALL, [3, 0], account)
        self.assert_account(overview(), [5, 0], ("account", (HOUR,), (((0, 0, 0),),)))


if __name__ == "__main__":
    unittest.main()
