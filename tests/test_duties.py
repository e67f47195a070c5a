"""[8] duties, [24] from piece to piece, [25] stretches, [26] spans."""

import itertools
import random
import unittest

from citylines.duties import are_duties, duty_place, duty_rides, is_duty, spans, stretches, there
from citylines.errors import (
    InvalidArrival, InvalidCity, InvalidDuty, InvalidHop, InvalidLines, InvalidPlace, InvalidTimes, InvalidTrip, InvalidTrips,
)
from helpers import (
    Case, Few, NO_INTEGERS, OTHERS, TOWN, TOWN_LINES, TOWN_TRIPS, even_city, listed, part, paths, put,
)

DAY = (TOWN, TOWN_LINES, TOWN_TRIPS)

# From stop 1 to 3, from 0 to 0, from 2 to 1, from 3 to 2: the walks between, and at least a minute of rest.
DUTY = (
    "duty", ((0, 0, 0), (1, 1, 2), (2, 0, 1), (3, 0, 0), (5, 0, 0)),
    (("walk", 21), ("rest", 1), ("rest", 18), ("walk", 10)),
)
ALONE = ("duty", ((4, 0, 0),), ())
REST_WITHOUT_ALONE = (((0, 1, 1), (1, 0, 0), (5, 1, 2)), (("walk", 0), ("rest", 21)))
REST = ("duty", ((0, 1, 1), (1, 0, 0), (4, 0, 0), (5, 1, 2)), (("walk", 0), ("rest", 10), ("walk", 30)))

# In the FORM, with trips and hops that are nowhere, and rides that are there twice.
FAR = ("duty", ((10 ** 20, 0, 6), (0, 6, 6), (10 ** 20, 3, 6)), (("walk", 0), ("rest", 120)))

LONG_DAY = ("duty", ((0, 0, 2), (1, 1, 1), (2, 0, 0)), (("walk", 3), ("rest", 30)))


def rides_by_pieces(duty):
    rides = []
    for trip, first, last in duty[1]:
        hop = first
        while hop <= last:
            rides.append((trip, hop))
            hop += 1
    return rides


def stretches_by_places(duty):
    """Place by place: a rest between two pieces parts them."""
    found = [[0, 0]]
    for place in range(1, len(duty[1])):
        if duty[2][place - 1][0] == "rest":
            found.append([place, place])
        else:
            found[-1][1] = place
    return [tuple(pair) for pair in found]


def spans_by_minutes(duty, times):
    """Counted minute by minute, from the begin of the stretch and from that of the duty."""
    found = []
    for place in range(len(times)):
        begin = next(first for first, last in stretches_by_places(duty) if first <= place <= last)
        driven = sum(1 for minute in range(times[0][0], times[place][1]) if minute >= times[begin][0])
        found.append((driven, sum(1 for _ in range(times[0][0], times[place][1]))))
    return found


class Duties(Case):
    def assert_no_duty(self, value):
        """No duty of the trips, alone or among others that have all other rides."""
        self.assert_no(is_duty, *DAY, value)
        for duties in ((value,), (value, REST), (REST, value), (DUTY, value), (DUTY, REST[:1] + REST_WITHOUT_ALONE, value)):
            self.assert_no(are_duties, *DAY, duties)

    def assert_no_form(self, value):
        self.assert_no_duty(value)
        self.assert_error(InvalidDuty, [value], duty_rides, value)
        self.assert_error(InvalidDuty, [value], there, value, 1, 0)
        self.assert_error(InvalidDuty, [value], stretches, value)
        self.assert_error(InvalidDuty, [value], spans, value, [])

    def assert_form_alone(self, value):
        """In the form, but no duty of the trips."""
        self.assert_no_duty(value)
        self.assert_told(rides_by_pieces(value), duty_rides, value)

    def test_duties(self):
        for duty in (DUTY, ALONE, REST):
            self.assert_yes(is_duty, *DAY, duty)
        self.assert_form_alone(FAR)

    def test_each_ride_in_just_one_piece(self):
        rest = (ALONE, ("duty", ((0, 1, 1),), ()), ("duty", ((1, 0, 0), (5, 1, 2)), (("rest", 21),)))
        whole = (DUTY,) + rest
        for row in itertools.permutations(whole):
            self.assert_yes(are_duties, *DAY, row)
        for at in range(4):
            self.assert_no(are_duties, *DAY, whole[:at] + whole[at + 1:])
            self.assert_no(are_duties, *DAY, whole + (whole[at],))
        self.assert_no(are_duties, *DAY, (DUTY,))
        self.assert_yes(are_duties, *DAY, (DUTY, REST))
        self.assert_yes(are_duties, *DAY, (DUTY, REST[:1] + REST_WITHOUT_ALONE, ALONE))
        self.assert_no(are_duties, *DAY, (DUTY, REST, ALONE))
        self.assert_no(are_duties, *DAY, ())

    def test_each_ride_alone(self):
        rides = [(trip, hop) for trip, row in enumerate(TOWN_TRIPS) for hop in range(len(row[2]))]
        alone = tuple(("duty", ((trip, hop, hop),), ()) for trip, hop in rides)
        self.assert_yes(are_duties, *DAY, alone)
        for at in range(len(rides)):
            self.assert_no(are_duties, *DAY, alone[:at] + alone[at + 1:])
            self.assert_no(are_duties, *DAY, alone + (alone[at],))
            self.assert_no(are_duties, *DAY, alone[:at] + (alone[at - 1],) + alone[at + 1:])
        whole = tuple(("duty", ((trip, 0, len(row[2]) - 1),), ()) for trip, row in enumerate(TOWN_TRIPS))
        self.assert_yes(are_duties, *DAY, whole)
        self.assert_no(are_duties, *DAY, put(whole, (1, 1, 0, 2), 1))
        self.assert_no(are_duties, *DAY, put(whole, (1, 1, 0, 1), 1))
        self.assert_no(are_duties, *DAY, whole + (("duty", ((1, 1, 1),), ()),))

    def test_a_tuple_of_duties(self):
        whole = tuple(("duty", ((trip, 0, len(row[2]) - 1),), ()) for trip, row in enumerate(TOWN_TRIPS))
        self.assert_no(are_duties, *DAY, list(whole))
        self.assert_no(are_duties, *DAY, whole[0])
        for value in OTHERS:
            self.assert_no(are_duties, *DAY, value)
            self.assert_no(are_duties, *DAY, whole + (value,))

    def test_no_ride_in_two_pieces_of_one(self):
        for pieces in (
            ((1, 0, 1), (4, 0, 0), (1, 1, 2)), ((1, 0, 0), (4, 0, 0), (1, 0, 0)), ((1, 0, 2), (4, 0, 0), (1, 1, 1)),
            ((4, 0, 0), (1, 2, 2), (0, 0, 1), (1, 0, 2)),
        ):
            self.assert_form_alone(("duty", pieces, (("walk", 120),) * (len(pieces) - 1)))
        self.assert_yes(is_duty, *DAY, ("duty", ((1, 0, 0), (4, 0, 0), (1, 1, 2)), (("walk", 120),) * 2))
        self.assert_yes(is_duty, *DAY, ("duty", ((1, 1, 2), (4, 0, 0), (1, 0, 0)), (("rest", 120),) * 2))

    def test_no_neighbours_of_one_trip(self):
        for pieces in (
            ((1, 0, 0), (1, 1, 2)), ((1, 0, 0), (1, 2, 2)), ((0, 0, 0), (1, 0, 0), (1, 1, 1)),
            ((1, 0, 0), (1, 1, 1), (0, 0, 0), (4, 0, 0)), ((0, 0, 0), (1, 0, 0), (1, 1, 1), (4, 0, 0)),
        ):
            for word in ("walk", "rest"):
                self.assert_no_form(("duty", pieces, ((word, 120),) * (len(pieces) - 1)))

    def test_trips_and_hops_of_the_day(self):
        for at in range(5):
            for wrong in (6, 7, 10 ** 29):
                self.assert_form_alone(put(DUTY, (1, at, 0), wrong))
            hops = len(TOWN_TRIPS[DUTY[1][at][0]][2])
            for wrong in range(hops, 7):
                self.assert_form_alone(put(DUTY, (1, at, 2), wrong))
                self.assert_form_alone(put(put(DUTY, (1, at, 2), wrong), (1, at, 1), wrong))
            for wrong in [-1, -(10 ** 29)] + NO_INTEGERS:
                self.assert_no_form(put(DUTY, (1, at, 0), wrong))
            for which in (1, 2):
                for wrong in [-1, 7, 8, 10 ** 29] + NO_INTEGERS:
                    self.assert_no_form(put(DUTY, (1, at, which), wrong))
            self.assert_no_form(put(put(DUTY, (1, at, 1), 7), (1, at, 2), 7))

    def test_the_last_hop_not_below_the_first(self):
        for at in range(5):
            for first, last in ((1, 0), (6, 5), (6, 0)):
                self.assert_no_form(put(put(DUTY, (1, at, 1), first), (1, at, 2), last))
        self.assert_yes(is_duty, *DAY, ("duty", ((1, 2, 2),), ()))
        self.assert_no_form(("duty", ((1, 2, 1),), ()))

    def test_hops_to_six(self):
        self.assert_told([(9, hop) for hop in range(7)], duty_rides, ("duty", ((9, 0, 6),), ()))
        self.assert_told([(9, 6)], duty_rides, ("duty", ((9, 6, 6),), ()))
        self.assert_no_form(("duty", ((9, 0, 7),), ()))
        self.assert_no_form(("duty", ((9, 7, 7),), ()))

    def test_how_many_pieces(self):
        for many in (1, 2, 3, 59, 60):
            duty = ("duty", tuple((at % 2, 0, 0) for at in range(many)), (("walk", 0),) * (many - 1))
            self.assert_told([(at % 2, 0) for at in range(many)], duty_rides, duty)
        for many in (0, 61, 62):
            self.assert_no_form(("duty", tuple((at % 2, 0, 0) for at in range(many)), (("walk", 0),) * max(many - 1, 0)))

    def test_breaks_and_walks(self):
        for at in range(4):
            least = (21, 0, 18, 10)[at]
            for word in ("walk", "rest"):
                for minutes in (least, least + 1, 119, 120):
                    duty = put(DUTY, (2, at), (word, minutes))
                    if word == "rest" and minutes == 0:
                        self.assert_no_form(duty)
                    else:
                        self.assert_yes(is_duty, *DAY, duty)
                for minutes in (least - 1, 1, 0):
                    if minutes < least and not (word == "rest" and minutes == 0):
                        duty = put(DUTY, (2, at), (word, minutes))
                        (self.assert_form_alone if minutes >= 0 else self.assert_no_form)(duty)
                for wrong in [121, 122, -1, 10 ** 29] + NO_INTEGERS:
                    self.assert_no_form(put(DUTY, (2, at), (word, wrong)))
            self.assert_no_form(put(DUTY, (2, at), ("rest", 0)))
            self.assert_no_form(put(DUTY, (2, at), ("rest", False)))
            self.assert_no_form(put(DUTY, (2, at), ("walk", False)))

    def test_words_of_breaks(self):
        for at in range(4):
            for wrong in ["Walk", "drive", "wal", "", ("walk",), b"rest"] + OTHERS:
                self.assert_no_form(put(DUTY, (2, at, 0), wrong))
            for wrong in [("walk",), ("walk", 30, 0), (30, "walk"), ["walk", 30], "walk"] + OTHERS:
                self.assert_no_form(put(DUTY, (2, at), wrong))

    def test_as_many_breaks(self):
        for wrong in ((), DUTY[2][:3], DUTY[2] + (("walk", 120),), None, list(DUTY[2])):
            self.assert_no_form(put(DUTY, (2,), wrong))
        self.assert_no_form(put(ALONE, (2,), (("walk", 0),)))
        self.assert_no_form(put(ALONE, (2,), None))

    def test_the_three_parts_of_a_piece(self):
        for at in range(5):
            for wrong in [(0, 0), (0, 0, 0, 0), (), [0, 0, 0], 0] + OTHERS:
                self.assert_no_form(put(DUTY, (1, at), wrong))

    def test_the_three_parts(self):
        for wrong in ("Duty", "block", "", None, 0, True, ("duty",), b"duty"):
            self.assert_no_form(put(DUTY, (0,), wrong))
        for wrong in (DUTY[:2], DUTY + (None,), DUTY[1:], DUTY[1:] + ("duty",)):
            self.assert_no_form(wrong)

    def test_tuples_alone(self):
        for duty in (DUTY, ALONE, REST, FAR):
            for path in paths(duty):
                if isinstance(part(duty, path), tuple):
                    self.assert_no_form(put(duty, path, list(part(duty, path))))
            self.assert_no_form(listed(duty))

    def test_every_part_of_every_other_kind(self):
        for duty in (DUTY, ALONE):
            for path in paths(duty):
                for wrong in OTHERS:
                    if type(wrong) is not type(part(duty, path)):
                        self.assert_no_form(put(duty, path, wrong))

    def test_values_of_all_other_kinds(self):
        for value in OTHERS:
            self.assert_no_form(value)

    def test_errors_in_their_sequence(self):
        for call in (is_duty, are_duties):
            for city in OTHERS + [list(TOWN), even_city(13)]:
                self.assert_error(InvalidCity, [city], call, city, None, None, None)
                self.assert_error(InvalidCity, [city], call, city, *DAY[1:], DUTY)
            for lines in OTHERS + [list(TOWN_LINES), TOWN_LINES * 3]:
                self.assert_error(InvalidLines, [lines], call, TOWN, lines, None, None)
            for trips in OTHERS + [list(TOWN_TRIPS), TOWN_TRIPS * 2, TOWN_TRIPS[::-1], put(TOWN_TRIPS, (1, 2, 1), 47)]:
                self.assert_error(InvalidTrips, [trips], call, TOWN, TOWN_LINES, trips, DUTY)

    def test_names_of_parameters(self):
        self.assert_by_name(is_duty, city=TOWN, lines=TOWN_LINES, trips=TOWN_TRIPS, value=DUTY)
        self.assert_by_name(are_duties, city=TOWN, lines=TOWN_LINES, trips=TOWN_TRIPS, value=(DUTY,))
        self.assert_by_name(duty_place, duties=[DUTY], trip=1, hop=2)
        self.assert_by_name(duty_rides, duty=DUTY)
        self.assert_by_name(there, duty=LONG_DAY, place=1, arrival=100)
        self.assert_by_name(stretches, duty=DUTY)
        self.assert_by_name(spans, duty=LONG_DAY, times=[(60, 100), (104, 120), (155, 170)])


class Rides(Case):
    def test_rides(self):
        for duty in (DUTY, ALONE, REST, FAR, LONG_DAY):
            self.assert_told(rides_by_pieces(duty), duty_rides, duty)
        self.assert_told([(0, 0), (1, 1), (1, 2), (2, 0), (2, 1), (3, 0), (5, 0)], duty_rides, DUTY)

    def test_places(self):
        duties = [DUTY, ALONE, REST]
        for trip, row in enumerate(TOWN_TRIPS):
            for hop in range(8):
                expected = None
                for position in (2, 1, 0):
                    for place in reversed(range(len(duties[position][1]))):
                        if (trip, hop) in rides_by_pieces(("duty", duties[position][1][place:place + 1], ())):
                            expected = (position, place)
                self.assert_told(expected, duty_place, duties, trip, hop)
                self.assert_told(expected, duty_place, tuple(duties), trip, hop)

    def test_the_first_place_of_several(self):
        self.assert_told((0, 0), duty_place, [FAR], 10 ** 20, 3)
        self.assert_told((1, 0), duty_place, [DUTY, FAR], 10 ** 20, 6)
        self.assert_told((0, 1), duty_place, (FAR, FAR), 0, 6)
        self.assert_told((0, 0), duty_place, [LONG_DAY, FAR], 0, 0)
        self.assert_told((1, 1), duty_place, [LONG_DAY, FAR], 0, 6)
        self.assert_told(None, duty_place, [FAR], 0, 5)
        self.assert_told(None, duty_place, [FAR], 0, 7)
        self.assert_told(None, duty_place, [FAR], 1, 6)
        self.assert_told(None, duty_place, [], 0, 0)
        self.assert_told(None, duty_place, (), 10 ** 29, 10 ** 29)

    def test_trips_and_hops(self):
        for wrong in [-1, -(10 ** 29)] + NO_INTEGERS:
            self.assert_error(InvalidTrip, [wrong], duty_place, [DUTY], wrong, 0)
            self.assert_error(InvalidTrip, [wrong], duty_place, [], wrong, None)
            self.assert_error(InvalidHop, [wrong], duty_place, [DUTY], 0, wrong)
            self.assert_error(InvalidHop, [wrong], duty_place, [], 0, wrong)

    def test_plain_results(self):
        duty = ("duty", ((Few.TWO, Few.ONE, Few.TWO), (Few.ONE, 0, 0)), (("walk", Few.TWO),))
        self.assert_told([(2, 1), (2, 2), (1, 0)], duty_rides, duty)
        self.assert_told((0, 0), duty_place, [duty], Few.TWO, Few.TWO)
        self.assert_told(3, there, duty, Few.ONE, Few.ONE)
        self.assert_told([(1, 1), (3, 3)], spans, duty, [(Few.NONE, Few.ONE), (3, 3)])


class Spans(Case):
    def test_there(self):
        for place, minutes in ((1, 21), (2, 1), (3, 18), (4, 10)):
            for arrival in (0, 1, 100, 2500, 10 ** 29):
                self.assert_told(arrival + minutes, there, DUTY, place, arrival)
        self.assert_told(0, there, ("duty", ((0, 0, 0), (1, 0, 0)), (("walk", 0),)), 1, 0)

    def test_places_and_arrivals(self):
        for duty in (DUTY, REST, ALONE, LONG_DAY):
            many = len(duty[1])
            for wrong in [0, -1, many, many + 1, 10 ** 29] + NO_INTEGERS:
                self.assert_error(InvalidPlace, [wrong], there, duty, wrong, 0)
        for wrong in [-1, -(10 ** 29)] + NO_INTEGERS:
            for place in (1, 4):
                self.assert_error(InvalidArrival, [wrong], there, DUTY, place, wrong)

    def test_errors_in_their_sequence(self):
        self.assert_error(InvalidDuty, [()], there, (), None, None)
        self.assert_error(InvalidPlace, [5], there, DUTY, 5, None)
        self.assert_error(InvalidPlace, [True], there, DUTY, True, True)
        self.assert_error(InvalidArrival, [True], there, DUTY, 1, True)
        self.assert_error(InvalidDuty, [()], spans, (), None)

    def test_stretches(self):
        self.assert_told([(0, 1), (2, 2), (3, 4)], stretches, DUTY)
        self.assert_told([(0, 0)], stretches, ALONE)
        self.assert_told([(0, 1), (2, 3)], stretches, REST)
        self.assert_told([(0, 1), (2, 2)], stretches, FAR)
        for many in range(1, 7):
            pieces = tuple((at, 0, 0) for at in range(many))
            for words in itertools.product(("walk", "rest"), repeat=many - 1):
                duty = ("duty", pieces, tuple((word, 5) for word in words))
                self.assert_told(stretches_by_places(duty), stretches, duty)
                self.assertEqual(1 + words.count("rest"), len(stretches(duty)))

    def test_spans_minute_by_minute(self):
        draw = random.Random(26)
        for _ in range(300):
            many = draw.randint(1, 5)
            breaks = tuple((draw.choice(("walk", "rest")), draw.randint(1, 40)) for _ in range(many - 1))
            duty = ("duty", tuple((at, 0, 0) for at in range(many)), breaks)
            times, minute = [], draw.choice((0, 30))
            for place in range(many):
                if place:
                    minute = times[-1][1] + breaks[place - 1][1]
                    soon = times + [(minute - 1, minute)]
                    soon = soon + [(10 ** 6, 10 ** 6)] + [(10 ** 7 * at, 10 ** 7 * at) for at in range(2, 5)]
                    soon = soon[:many]
                    self.assert_error(InvalidTimes, [soon], spans, duty, soon)
                    minute += draw.choice((0, 0, 7))
                times.append((minute, minute + draw.choice((0, 1, 30))))
            expected = spans_by_minutes(duty, times)
            self.assert_told(expected, spans, duty, times)
            self.assert_told(expected, spans, duty, tuple(times))
            for driven, long in expected:
                self.assertLessEqual(driven, long)

    def test_spans(self):
        times = [(10, 16), (50, 80), (81, 100), (118, 130), (140, 150)]
        self.assert_told([(6, 6), (70, 70), (19, 90), (12, 120), (32, 140)], spans, DUTY, times)
        self.assert_told([(0, 0)], spans, ALONE, [(10 ** 29, 10 ** 29)])
        self.assert_told([(10 ** 29, 10 ** 29)], spans, ALONE, ((0, 10 ** 29),))
        # What makes a stretch begin later, and end as before, makes it shorter.
        self.assert_told([(4, 4), (68, 68), (19, 88), (12, 118), (32, 138)], spans, DUTY, [(12, 16)] + times[1:])

    def test_times_just_in_time(self):
        times = [(10, 16), (37, 80), (81, 100), (118, 130), (140, 150)]
        self.assert_told([(6, 6), (70, 70), (19, 90), (12, 120), (32, 140)], spans, DUTY, times)
        for place in range(1, 5):
            soon = put(times, (place, 0), times[place][0] - 1)
            self.assert_error(InvalidTimes, [soon], spans, DUTY, soon)

    def test_times(self):
        good = [(60, 100), (104, 120), (155, 170)]
        self.assert_told([(40, 40), (60, 60), (15, 110)], spans, LONG_DAY, good)
        for wrong in OTHERS + [good[:2], good + [(250, 260)], (tuple(good),), [list(row) for row in good], dict(good)]:
            self.assert_error(InvalidTimes, [wrong], spans, LONG_DAY, wrong)
        for place in range(3):
            for wrong in OTHERS + [good[place][:1], good[place] + (0,), good[place][::-1], list(good[place])]:
                times = put(good, (place,), wrong)
                self.assert_error(InvalidTimes, [times], spans, LONG_DAY, times)
            for at in (0, 1):
                for wrong in [-1, -(10 ** 29)] + NO_INTEGERS:
                    times = put(good, (place, at), wrong)
                    self.assert_error(InvalidTimes, [times], spans, LONG_DAY, times)
            early = put(good, (place, 1), good[place][0] - 1)
            self.assert_error(InvalidTimes, [early], spans, LONG_DAY, early)
        self.assert_error(InvalidTimes, [[]], spans, ALONE, [])
        self.assert_error(InvalidTimes, [[(False, 1)]], spans, ALONE, [(False, 1)])
        self.assert_error(InvalidTimes, [[(0, True)]], spans, ALONE, [(0, True)])


if __name__ == "__main__":
    unittest.main()
