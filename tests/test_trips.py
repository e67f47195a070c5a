"""[6] trips, [7] rides, [14] slack, [15] trips of lines, [16] beats, [17] joined trips."""

import itertools
import random
import unittest

from citylines.errors import (
    InvalidCity, InvalidEvery, InvalidHop, InvalidLine, InvalidLines, InvalidMany, InvalidMinute, InvalidTrip,
    InvalidTrips, TooMany,
)
from citylines.lines import least_between
from citylines.trips import (
    are_trips, beat, joined_trips, slacks, told_arrival, told_departure, trip_ahead,
)
from helpers import (
    CITY, Case, Few, NO_INTEGERS, OTHERS, TOWN, TOWN_LINES, TOWN_TRIPS, even_city, listed, part, paths, put,
)

WIDE = even_city(5)
LONG = ("line", (0, 1, 2, 3, 4, 3, 0, 1), (4, 5, 6, 7, 8, 9, 99), (0, 1, 2, 3, 4, 30), 7)
NEAR = ("line", (3, 4), (4,), (), 2)
# The first and the last line are equal: two lines.
LINES = (LONG, NEAR, LONG)
LINES_OF_EXAMPLE = (("line", (0, 1, 2), (4, 6), (1,), 3), ("line", (2, 0), (8,), (), 5))


def without_slack(line, first):
    """The told departures of a trip of the line that never waits."""
    _, _, leasts, stands, _ = line
    told = [first]
    for least, stand in zip(leasts, stands):
        told.append(told[-1] + least + stand)
    return tuple(told)


def long_trip(first, line=0):
    return ("trip", line, without_slack(LONG, first))


# Told on a line of seven hops at the first, a middle and the last place, with others between.
TRIPS = (
    long_trip(100), ("trip", 1, (90,)), long_trip(120), long_trip(110, 2), ("trip", 1, (92,)), long_trip(140),
)
LAST_FIRST = 1999 - without_slack(LONG, 0)[-1]


class Trips(Case):
    def assert_trips(self, value):
        self.assert_yes(are_trips, WIDE, LINES, value)

    def assert_no_trips(self, value):
        self.assert_no(are_trips, WIDE, LINES, value)
        good = (("trip", 1, (1000,)),)
        self.assert_error(InvalidTrips, [value], joined_trips, WIDE, LINES, value, good)
        self.assert_error(InvalidTrips, [value], joined_trips, WIDE, LINES, good, value)

    def test_trips(self):
        self.assert_trips(TRIPS)
        self.assert_yes(are_trips, TOWN, TOWN_LINES, TOWN_TRIPS)
        for trip in TRIPS:
            self.assert_trips((trip,))

    def test_how_many(self):
        for many in range(1, 17):
            self.assert_trips(tuple(("trip", 1, (10 + 2 * at,)) for at in range(many)))
        for many in (0, 17, 18):
            self.assert_no_trips(tuple(("trip", 1, (10 + 2 * at,)) for at in range(many)))

    def test_which_line(self):
        for at in (0, 2, 5):
            for wrong in [-1, 3, 4, 10 ** 29] + NO_INTEGERS:
                self.assert_no_trips(put(TRIPS, (at, 1), wrong))
        self.assert_no(are_trips, WIDE, (LONG,), (("trip", 1, (90,)),))
        self.assert_no_trips((("trip", False, without_slack(LONG, 100)),))
        self.assert_no_trips((("trip", True, (90,)),))

    def test_as_many_as_hops(self):
        for at in (0, 2, 5):
            told = TRIPS[at][2]
            for wrong in (told[:-1], told + (1900,), (), told[:1], told[1:]):
                self.assert_no_trips(put(TRIPS, (at, 2), wrong))
        for at in (1, 4):
            for wrong in ((), (90, 99)):
                self.assert_no_trips(put(TRIPS, (at, 2), wrong))

    def test_each_told_minute(self):
        for at, hop in itertools.product((0, 2, 5), (0, 3, 6)):
            for wrong in [-1, 2000, 10 ** 29, -(10 ** 29)] + NO_INTEGERS:
                self.assert_no_trips(put(TRIPS, (at, 2, hop), wrong))

    def test_the_last_minute(self):
        self.assert_trips((("trip", 1, (0,)),))
        self.assert_trips((("trip", 1, (1999,)),))
        self.assert_no_trips((("trip", 1, (2000,)),))
        self.assert_no_trips((("trip", 1, (-1,)),))
        self.assert_trips((long_trip(0),))
        self.assert_trips((long_trip(LAST_FIRST),))
        self.assert_no_trips((long_trip(LAST_FIRST + 1),))
        for at in (0, 3, 5):
            self.assert_yes(are_trips, WIDE, LINES, put(TRIPS[at:at + 1], (0, 2, 6), 1999))
            self.assert_no_trips(put(TRIPS[at:at + 1], (0, 2, 6), 2000))

    def test_no_sooner_than_leasts_and_stands(self):
        for at, hop in itertools.product((0, 2, 3, 5), range(6)):
            told = TRIPS[at][2]
            # All hops behind are later by far: the one departure alone is too soon.
            later = told[:hop + 1] + tuple(minute + 300 for minute in told[hop + 1:])
            just = later[:hop + 1] + (told[hop + 1],) + later[hop + 2:]
            soon = later[:hop + 1] + (told[hop + 1] - 1,) + later[hop + 2:]
            self.assert_trips((TRIPS[at][:2] + (just,),))
            self.assert_no_trips((TRIPS[at][:2] + (soon,),))
            self.assert_no_trips(put(TRIPS, (at, 2), soon))

    def test_just_apart(self):
        for gap in (7, 8, 30):
            self.assert_trips((long_trip(100), long_trip(100 + gap)))
            self.assert_trips((long_trip(100), long_trip(100 + gap), long_trip(100 + 2 * gap)))
        for gap in (6, 1, 0, -1, -7, -30):
            self.assert_no_trips((long_trip(100), long_trip(100 + gap)))
            self.assert_no_trips((long_trip(100), long_trip(200), long_trip(200 + gap)))
            self.assert_no_trips((long_trip(300), long_trip(300 + gap), long_trip(400)))

    def test_apart_at_each_hop(self):
        for hop in range(7):
            slow = tuple(minute + (20 if at >= hop else 0) for at, minute in enumerate(without_slack(LONG, 100)))
            for behind in (27, 26):
                other = without_slack(LONG, 100 + behind)
                # From this hop on it is as far behind as this less 20; up to there farther.
                trips = (("trip", 0, slow), ("trip", 0, other))
                if behind == 27:
                    self.assert_trips(trips)
                else:
                    self.assert_no_trips(trips)
                    self.assert_no_trips((long_trip(50),) + trips + (long_trip(500),))
            quick = tuple(minute + (0 if at <= hop else 20) for at, minute in enumerate(without_slack(LONG, 106)))
            self.assert_no_trips((long_trip(100), ("trip", 0, quick)))

    def test_overtaking(self):
        slow = without_slack(LONG, 100)[:4] + tuple(minute + 60 for minute in without_slack(LONG, 100)[4:])
        self.assert_no_trips((("trip", 0, slow), long_trip(120)))
        self.assert_no_trips((long_trip(120), ("trip", 0, slow)))
        self.assert_trips((("trip", 0, slow), long_trip(170)))

    def test_in_the_other_sequence(self):
        self.assert_no_trips((long_trip(120), long_trip(100)))
        self.assert_no_trips((long_trip(120), ("trip", 1, (90,)), long_trip(100)))
        self.assert_no_trips((("trip", 1, (92,)), ("trip", 1, (90,))))

    def test_other_lines_may_stand_between(self):
        for row in itertools.permutations(range(6)):
            trips = tuple(TRIPS[at] for at in row)
            rising = all(
                row.index(a) < row.index(b) for a, b in ((0, 2), (2, 5), (1, 4))
            )
            self.assertIs(are_trips(WIDE, LINES, trips), rising)

    def test_two_equal_lines_are_two(self):
        self.assert_trips((long_trip(100, 0), long_trip(100, 2)))
        self.assert_trips((long_trip(100, 0), long_trip(99, 2), long_trip(107, 0), long_trip(106, 2)))
        self.assert_no_trips((long_trip(100, 0), long_trip(100, 2), long_trip(106, 0)))
        self.assert_no_trips((long_trip(100, 2), long_trip(100, 0), long_trip(106, 2)))

    def test_the_next_one_ahead_counts(self):
        # The third one is far behind the first one, and too near to the second one.
        self.assert_no_trips((long_trip(100), long_trip(107), ("trip", 1, (5,)), long_trip(113)))
        self.assert_no_trips((long_trip(100), long_trip(113), ("trip", 1, (5,)), long_trip(107)))
        self.assert_trips((long_trip(100), ("trip", 1, (5,)), long_trip(107)))
        for many in range(1, 7):
            for rest in itertools.combinations(TRIPS, many):
                self.assert_trips(rest)

    def test_the_three_parts(self):
        for at in (0, 2, 5):
            for wrong in ("Trip", "line", "", None, 0, True, ("trip",), b"trip"):
                self.assert_no_trips(put(TRIPS, (at, 0), wrong))
            for wrong in (TRIPS[at][:2], TRIPS[at] + (None,), TRIPS[at][1:], TRIPS[at][1:] + ("trip",)):
                self.assert_no_trips(put(TRIPS, (at,), wrong))

    def test_tuples_alone(self):
        for path in paths(TRIPS):
            if isinstance(part(TRIPS, path), tuple):
                self.assert_no_trips(put(TRIPS, path, list(part(TRIPS, path))))
        self.assert_no_trips(listed(TRIPS))

    def test_every_part_of_every_other_kind(self):
        trips = (("trip", 1, (90,)), ("trip", 0, (100, 104, 110, 118, 128, 140, 179)), ("trip", 1, (92,)))
        self.assert_trips(trips)
        for path in paths(trips):
            for wrong in OTHERS:
                if type(wrong) is not type(part(trips, path)):
                    self.assert_no(are_trips, WIDE, LINES, put(trips, path, wrong))

    def test_values_of_all_other_kinds(self):
        for value in OTHERS:
            self.assert_no_trips(value)
        self.assert_no_trips(TRIPS[0])

    def test_no_city_and_no_lines(self):
        for city in OTHERS + [list(WIDE), even_city(13), put(WIDE, (1, 0), True)]:
            self.assert_error(InvalidCity, [city], are_trips, city, LINES, TRIPS)
            self.assert_error(InvalidCity, [city], are_trips, city, None, None)
        for lines in OTHERS + [list(LINES), LINES * 3, put(LINES, (1, 4), True), put(LINES, (0,), None), LONG]:
            self.assert_error(InvalidLines, [lines], are_trips, WIDE, lines, TRIPS)
            self.assert_error(InvalidLines, [lines], are_trips, WIDE, lines, None)
        # Lines of another city are none of this one.
        self.assert_error(InvalidLines, [LINES], are_trips, CITY, LINES, TRIPS)

    def test_names_of_parameters(self):
        self.assert_by_name(are_trips, city=WIDE, lines=LINES, value=TRIPS)
        self.assert_by_name(told_departure, trip=TRIPS[0], hop=2)
        self.assert_by_name(told_arrival, lines=LINES, trip=TRIPS[0], hop=2)
        self.assert_by_name(slacks, lines=TOWN_LINES, trip=TOWN_TRIPS[1])
        self.assert_by_name(trip_ahead, trips=TRIPS, trip=5)
        self.assert_by_name(beat, city=WIDE, lines=LINES, line=1, first=5, every=7, many=3)
        self.assert_by_name(joined_trips, city=WIDE, lines=LINES, trips=TRIPS[:2], other=TRIPS[2:])


class Told(Case):
    def test_departures_and_arrivals(self):
        for lines, trips in ((LINES, TRIPS), (TOWN_LINES, TOWN_TRIPS)):
            for trip in trips:
                for hop, minute in enumerate(trip[2]):
                    self.assert_told(minute, told_departure, trip, hop)
                    self.assert_told(minute + lines[trip[1]][2][hop], told_arrival, lines, trip, hop)

    def test_an_arrival_may_be_beyond_the_last_minute(self):
        self.assert_told(1999, told_departure, long_trip(LAST_FIRST), 6)
        self.assert_told(1999 + 99, told_arrival, LINES, long_trip(LAST_FIRST), 6)

    def test_arrivals_are_as_far_apart_as_departures(self):
        for hop in range(7):
            gap = told_arrival(LINES, TRIPS[5], hop) - told_arrival(LINES, TRIPS[2], hop)
            self.assertEqual(TRIPS[5][2][hop] - TRIPS[2][2][hop], gap)

    def test_hops(self):
        for wrong in [-1, 7, 8, 10 ** 29] + NO_INTEGERS:
            self.assert_error(InvalidHop, [wrong], told_departure, TRIPS[0], wrong)
            self.assert_error(InvalidHop, [wrong], told_arrival, LINES, TRIPS[0], wrong)
        self.assert_error(InvalidHop, [1], told_departure, TRIPS[1], 1)
        self.assert_error(InvalidHop, [1], told_arrival, LINES, TRIPS[1], 1)

    def test_slacks(self):
        self.assert_told([], slacks, LINES, TRIPS[1])
        self.assert_told([0] * 6, slacks, LINES, TRIPS[0])
        self.assert_told([2], slacks, TOWN_LINES, TOWN_TRIPS[0])
        self.assert_told([2, 1], slacks, TOWN_LINES, TOWN_TRIPS[1])
        draw = random.Random(14)
        for _ in range(50):
            given = [draw.choice((0, 0, 1, 5, 30)) for _ in range(6)]
            told = tuple(minute + sum(given[:hop]) for hop, minute in enumerate(without_slack(LONG, 100)))
            self.assert_told(given, slacks, LINES, ("trip", 2, told))
            end = told_arrival(LINES, ("trip", 2, told), 6)
            self.assertEqual(end - 100, least_between(LONG, 0, 6) + sum(given))

    def test_trip_ahead(self):
        for at, ahead in enumerate([None, None, 0, None, 1, 2]):
            self.assert_told(ahead, trip_ahead, TRIPS, at)
        for at, ahead in enumerate([None, None, 0, None, None, 1]):
            self.assert_told(ahead, trip_ahead, TOWN_TRIPS, at)
        for wrong in [-1, 6, 7, 10 ** 29] + NO_INTEGERS:
            self.assert_error(InvalidTrip, [wrong], trip_ahead, TRIPS, wrong)
        self.assert_error(InvalidTrip, [1], trip_ahead, TRIPS[:1], 1)
        # With the one ahead left out, a farther one is ahead.
        self.assert_told(0, trip_ahead, TRIPS[:2] + TRIPS[3:], 4)

    def test_plain_results(self):
        trip = ("trip", Few.ONE, (Few.TWO,))
        self.assert_told(2, told_departure, trip, Few.NONE)
        self.assert_told(6, told_arrival, LINES, trip, Few.NONE)
        self.assert_told((("trip", 1, (2,)),), beat, WIDE, LINES, Few.ONE, Few.TWO, Few.TWO, Few.ONE)
        self.assert_told((trip_of(2), trip_of(4)), joined_trips, WIDE, LINES, (trip_of(4),), (trip,))


def trip_of(minute):
    return ("trip", 1, (minute,))


class Beats(Case):
    def test_beats(self):
        for line, first, every, many in itertools.product((0, 2), (0, 60), (7, 8, 100), (1, 2, 16)):
            expected = tuple(long_trip(first + at * every, line) for at in range(many))
            if expected[-1][2][-1] <= 1999:
                self.assert_told(expected, beat, WIDE, LINES, line, first, every, many)
                self.assert_yes(are_trips, WIDE, LINES, expected)

    def test_as_every_tells(self):
        for every in (7, 8, 239, 240):
            self.assert_told((long_trip(9), long_trip(9 + every)), beat, WIDE, LINES, 0, 9, every, 2)
        for every in [6, 1, 0, -1, 241, 242, 10 ** 29] + NO_INTEGERS:
            self.assert_error(InvalidEvery, [every], beat, WIDE, LINES, 0, 9, every, 2)
            self.assert_error(InvalidEvery, [every], beat, WIDE, LINES, 0, 9, every, 1)
        self.assert_error(InvalidEvery, [1], beat, WIDE, LINES, 1, 9, 1, 2)
        self.assert_told((trip_of(9), trip_of(11)), beat, WIDE, LINES, 1, 9, 2, 2)
        lines = (put(NEAR, (4,), 1), put(NEAR, (4,), 30))
        self.assert_told((("trip", 0, (5,)), ("trip", 0, (6,))), beat, WIDE, lines, 0, 5, 1, 2)
        self.assert_told((("trip", 1, (5,)), ("trip", 1, (35,))), beat, WIDE, lines, 1, 5, 30, 2)
        self.assert_error(InvalidEvery, [29], beat, WIDE, lines, 1, 5, 29, 2)
        self.assert_error(InvalidEvery, [True], beat, WIDE, lines, 0, 5, True, 2)

    def test_many(self):
        for many in range(1, 17):
            expected = tuple(trip_of(2 * at) for at in range(many))
            self.assert_told(expected, beat, WIDE, LINES, 1, 0, 2, many)
        for many in [0, -1, 17, 18, 10 ** 29] + NO_INTEGERS:
            self.assert_error(InvalidMany, [many], beat, WIDE, LINES, 1, 0, 2, many)

    def test_line_and_first(self):
        for line in [-1, 3, 4, 10 ** 29, LONG] + NO_INTEGERS:
            self.assert_error(InvalidLine, [line], beat, WIDE, LINES, line, 0, 7, 1)
        for first in [-1, 2000, 10 ** 29] + NO_INTEGERS:
            self.assert_error(InvalidMinute, [first], beat, WIDE, LINES, 0, first, 7, 1)

    def test_too_many_minutes(self):
        limit = ["minutes", 1999]
        self.assert_told((trip_of(1999),), beat, WIDE, LINES, 1, 1999, 2, 1)
        self.assert_told((trip_of(1997), trip_of(1999)), beat, WIDE, LINES, 1, 1997, 2, 2)
        self.assert_error(TooMany, limit, beat, WIDE, LINES, 1, 1998, 2, 2)
        self.assert_error(TooMany, limit, beat, WIDE, LINES, 1, 1999, 2, 2)
        self.assert_told((long_trip(LAST_FIRST),), beat, WIDE, LINES, 0, LAST_FIRST, 7, 1)
        self.assert_error(TooMany, limit, beat, WIDE, LINES, 0, LAST_FIRST + 1, 7, 1)
        for every, many in ((7, 2), (7, 16), (50, 16), (240, 4)):
            first = LAST_FIRST - every * (many - 1)
            self.assertEqual(1999, beat(WIDE, LINES, 0, first, every, many)[-1][2][-1])
            self.assert_error(TooMany, limit, beat, WIDE, LINES, 0, first + 1, every, many)
        self.assert_error(TooMany, limit, beat, WIDE, LINES, 1, 0, 240, 16)

    def test_errors_in_their_sequence(self):
        wrong = [None, None, None, None, 0, 0]
        kinds = [InvalidCity, InvalidLines, InvalidLine, InvalidMinute, InvalidEvery, InvalidMany]
        right = [WIDE, LINES, 0, 1999, 7, 16]
        for at, kind in enumerate(kinds):
            arguments = right[:at] + wrong[at:]
            self.assert_error(kind, [wrong[at]], beat, *arguments)
            # TooMany stands behind each of them.
            self.assert_error(kind, [wrong[at]], beat, *(right[:at] + wrong[at:at + 1] + right[at + 1:]))
        self.assert_error(TooMany, ["minutes", 1999], beat, *right)


class Joined(Case):
    def test_the_document_tells(self):
        one, other, far = ("trip", 0, (60, 65)), ("trip", 0, (64, 69)), ("trip", 0, (60, 72))
        self.assert_no(are_trips, CITY, LINES_OF_EXAMPLE, (("trip", 0, (64, 67)),))
        self.assert_yes(are_trips, CITY, LINES_OF_EXAMPLE, (one, other))
        self.assert_told((one, other), joined_trips, CITY, LINES_OF_EXAMPLE, (one,), (other,))
        self.assert_told((one, other), joined_trips, CITY, LINES_OF_EXAMPLE, (other,), (one,))
        self.assert_told([7], slacks, LINES_OF_EXAMPLE, far)
        self.assert_no(are_trips, CITY, LINES_OF_EXAMPLE, (far, other))
        self.assert_told(None, joined_trips, CITY, LINES_OF_EXAMPLE, (far,), (other,))
        self.assert_told(None, joined_trips, CITY, LINES_OF_EXAMPLE, (other,), (far,))

    def by_the_words(self, trips, other):
        both = trips + other
        rows = []
        for line in range(len(LINES)):
            firsts = sorted(trip[2][0] for trip in both if trip[1] == line)
            for first in firsts:
                rows.extend(trip for trip in both if trip[1] == line and trip[2][0] == first and trip not in rows)
        joined = tuple(rows)
        return joined if len(joined) == len(both) and are_trips(WIDE, LINES, joined) else None

    def test_either_way_round_and_of_three(self):
        draw = random.Random(17)
        nones = 0
        for _ in range(400):
            lots = []
            for _ in range(3):
                lot = ()
                for _ in range(draw.randint(1, 5)):
                    line, first = draw.randint(0, 2), draw.randint(0, 90)
                    told = tuple(minute + draw.choice((0, 0, 0, 9)) * (at > 3) for at, minute in enumerate(
                        without_slack(LINES[line], first)))
                    longer = lot + (("trip", line, told),)
                    lot = longer if are_trips(WIDE, LINES, longer) else lot
                if not lot:
                    lot = (long_trip(200),)
                lots.append(lot)
            one, two, three = lots
            expected = self.by_the_words(one, two)
            nones += expected is None
            self.assert_told(expected, joined_trips, WIDE, LINES, one, two)
            self.assert_told(expected, joined_trips, WIDE, LINES, two, one)
            whole = self.by_the_words(one + two, three)
            if whole is not None:
                for first, second, last in itertools.permutations(lots):
                    joined = joined_trips(WIDE, LINES, first, second)
                    self.assert_told(whole, joined_trips, WIDE, LINES, joined, last)
                    self.assert_told(whole, joined_trips, WIDE, LINES, last, joined)
        self.assertTrue(20 < nones < 380)

    def test_by_lines_then_by_first_departures(self):
        one = (trip_of(50), long_trip(140, 2), trip_of(60), long_trip(150))
        other = (long_trip(100), trip_of(55), long_trip(120, 2))
        expected = (long_trip(100), long_trip(150), trip_of(50), trip_of(55), trip_of(60), long_trip(120, 2), long_trip(140, 2))
        self.assert_told(expected, joined_trips, WIDE, LINES, one, other)
        self.assert_told(expected, joined_trips, WIDE, LINES, other, one)
        self.assert_told(expected, joined_trips, WIDE, LINES, expected[:3], expected[3:])

    def test_none(self):
        self.assert_told(None, joined_trips, WIDE, LINES, (trip_of(50),), (trip_of(50),))
        self.assert_told(None, joined_trips, WIDE, LINES, (trip_of(50),), (trip_of(51),))
        self.assert_told((trip_of(50), trip_of(52)), joined_trips, WIDE, LINES, (trip_of(52),), (trip_of(50),))
        self.assert_told(None, joined_trips, WIDE, LINES, TRIPS, TRIPS)
        self.assert_told((long_trip(100), long_trip(100, 2)), joined_trips, WIDE, LINES, (long_trip(100, 2),), (long_trip(100),))

    def test_too_many_trips_behind_all_other_errors(self):
        rows = tuple(trip_of(10 * at) for at in range(17))
        limit = ["trips", 16]
        self.assert_told(rows[:16], joined_trips, WIDE, LINES, rows[:15], rows[15:16])
        self.assert_told(rows[:16], joined_trips, WIDE, LINES, rows[15:16], rows[:15])
        self.assert_error(TooMany, limit, joined_trips, WIDE, LINES, rows[:16], rows[16:])
        self.assert_error(TooMany, limit, joined_trips, WIDE, LINES, rows[16:], rows[:16])
        self.assert_error(TooMany, limit, joined_trips, WIDE, LINES, rows[:16], rows[:16])
        self.assert_error(InvalidTrips, [rows], joined_trips, WIDE, LINES, rows, rows[:16])
        self.assert_error(InvalidTrips, [rows], joined_trips, WIDE, LINES, rows[:16], rows)
        self.assert_error(InvalidTrips, [None], joined_trips, WIDE, LINES, rows[:16], None)
        self.assert_error(InvalidLines, [None], joined_trips, WIDE, None, rows[:16], rows[:16])
        self.assert_error(InvalidCity, [None], joined_trips, None, LINES, rows[:16], rows[:16])

    def test_the_first_wrong_one_is_told(self):
        self.assert_error(InvalidTrips, [()], joined_trips, WIDE, LINES, (), None)
        self.assert_error(InvalidTrips, [list(TRIPS)], joined_trips, WIDE, LINES, list(TRIPS), list(TRIPS[:1]))
        self.assert_error(InvalidLines, [()], joined_trips, WIDE, (), (), None)
        self.assert_error(InvalidCity, [()], joined_trips, (), (), (), None)


if __name__ == "__main__":
    unittest.main()
