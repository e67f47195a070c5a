"""[8] blocks, [21] from trip to trip, [22] levels, [23] each trip once."""

import itertools
import random
import unittest

from citylines.blocks import are_blocks, block_place, charged, first_level, is_block, lack, levels, ready
from citylines.errors import (
    InvalidArrival, InvalidBlock, InvalidCity, InvalidDeparture, InvalidLevel, InvalidLines, InvalidPlace, InvalidTimes,
    InvalidTrip, InvalidTrips,
)
from helpers import (
    Case, Few, NO_INTEGERS, OTHERS, TOWN, TOWN_LINES, TOWN_TRIPS, even_city, listed, part, paths, put,
)

DAY = (TOWN, TOWN_LINES, TOWN_TRIPS)

# From stop 2 to 1, from 3 to 2, from 0 to 2: the drives between.
BLOCK = ("block", (0, 3, 1, 5), (6, 7, 9), None)
# Each trip begins where the one ahead ends.
CHARGED = ("block", (0, 1, 2), (0, 0), (50, (10, 20, 30), 2))
ALONE = ("block", (4,), (), None)
ALONE_CHARGED = ("block", (4,), (), (9, (9,), 9))

# In the FORM, with trips that are nowhere.
FAR = ("block", (10 ** 20, 0, 7), (60, 0), (99, (1, 99, 50), 9))

BUS = ("block", (0, 3), (4,), (50, (30, 40), 2))
HELD = ("block", (0, 1, 2), (0, 0), (20, (15, 10, 15), 1))


def lack_by_minutes(block, place, level):
    battery = block[3]
    minutes = 0
    while battery and level + battery[2] * minutes < battery[1][place]:
        minutes += 1
    return minutes


def ready_by_minutes(block, place, level, arrival):
    """The first minute at which it has turned, and is charged enough."""
    minute, battery = arrival, block[3]
    while minute - arrival < block[2][place - 1] or (battery and level < battery[1][place]):
        minute += 1
        if battery:
            level += battery[2]
    return minute


def charged_by_minutes(block, place, level, arrival, departure):
    battery = block[3]
    if battery is None:
        return None
    for _ in range(arrival, departure):
        level = min(level + battery[2], battery[0])
    return level - battery[1][place]


class Blocks(Case):
    def assert_no_block(self, value):
        """No block of the trips, alone or among others that have all other trips."""
        self.assert_no(is_block, *DAY, value)
        second, rest = ("block", (2,), (), None), (("block", (3,), (), None), ("block", (5,), (), None))
        for blocks in ((value,), (value, second, ALONE), (second, value, ALONE), (ALONE, value) + rest, (BLOCK, second, value)):
            self.assert_no(are_blocks, *DAY, blocks)

    def assert_no_form(self, value):
        self.assert_no_block(value)
        self.assert_error(InvalidBlock, [value], first_level, value)
        self.assert_error(InvalidBlock, [value], lack, value, 1, None)
        self.assert_error(InvalidBlock, [value], ready, value, 1, None, 0)
        self.assert_error(InvalidBlock, [value], charged, value, 1, None, 0, 0)
        self.assert_error(InvalidBlock, [value], levels, value, [])

    def assert_form_alone(self, value):
        """In the form, but no block of the trips."""
        self.assert_no_block(value)
        first_level(value)

    def test_blocks(self):
        for block in (BLOCK, CHARGED, ALONE, ALONE_CHARGED):
            self.assert_yes(is_block, *DAY, block)
        self.assert_form_alone(FAR)

    def test_each_trip_in_just_one(self):
        rest = tuple(("block", (trip,), (), None) for trip in (2, 4))
        self.assert_yes(are_blocks, *DAY, (BLOCK,) + rest)
        self.assert_yes(are_blocks, *DAY, rest + (BLOCK,))
        alone = tuple(("block", (trip,), (), None) for trip in range(6))
        self.assert_yes(are_blocks, *DAY, alone)
        self.assert_yes(are_blocks, *DAY, (ALONE_CHARGED, CHARGED, alone[3], alone[5]))
        for row in itertools.permutations(range(6)):
            self.assertIs(are_blocks(*DAY, tuple(alone[at] for at in row)), True)
        for at in range(6):
            # One of the trips in none, then in two of them.
            self.assert_no(are_blocks, *DAY, alone[:at] + alone[at + 1:])
            self.assert_no(are_blocks, *DAY, alone + (alone[at],))
            self.assert_no(are_blocks, *DAY, alone[:at] + (alone[at - 1],) + alone[at + 1:])
        self.assert_no(are_blocks, *DAY, (BLOCK,))
        self.assert_no(are_blocks, *DAY, (BLOCK,) + rest + (alone[5],))
        self.assert_no(are_blocks, *DAY, (BLOCK, CHARGED, alone[4]))
        self.assert_no(are_blocks, *DAY, ())

    def test_a_tuple_of_blocks(self):
        alone = tuple(("block", (trip,), (), None) for trip in range(6))
        self.assert_no(are_blocks, *DAY, list(alone))
        self.assert_no(are_blocks, *DAY, alone[0])
        for value in OTHERS:
            self.assert_no(are_blocks, *DAY, value)
            self.assert_no(are_blocks, *DAY, alone + (value,))

    def test_no_trip_twice_in_one(self):
        for trips in ((0, 0), (0, 1, 0), (0, 1, 2, 2), (5, 3, 3, 4)):
            self.assert_no_form(("block", trips, (60,) * (len(trips) - 1), None))

    def test_trips_of_the_day(self):
        for at in range(4):
            for wrong in (6, 7, 10 ** 29):
                self.assert_form_alone(put(BLOCK, (1, at), wrong))
            for wrong in [-1, -(10 ** 29)] + NO_INTEGERS:
                self.assert_no_form(put(BLOCK, (1, at), wrong))
        self.assert_form_alone(("block", (6,), (), None))
        self.assert_no_form(("block", (True,), (), None))
        self.assert_no_form(("block", (False, 1), (60,), None))

    def test_how_many_trips(self):
        for many in range(1, 17):
            block = ("block", tuple(range(many)), (0,) * (many - 1), (99, (99,) * many, 1))
            self.assertEqual(0, first_level(block))
            self.assertEqual(None, first_level(put(block, (3,), None)))
        for many in (0, 17, 18):
            self.assert_no_form(("block", tuple(range(many)), (0,) * max(many - 1, 0), None))
            self.assert_no_form(("block", tuple(range(many)), (0,) * max(many - 1, 0), (99, (9,) * many, 1)))

    def test_sixteen_trips_and_nothing_of_minutes(self):
        lines = (("line", (0, 1), (5,), (), 1), ("line", (1, 0), (5,), (), 1))
        trips = tuple(("trip", at % 2, (500 + at,)) for at in range(16))
        # Told one minute apart, and told backwards: a block says nothing of minutes.
        self.assert_yes(is_block, even_city(2), lines, trips, ("block", tuple(range(16)), (0,) * 15, None))
        self.assert_yes(is_block, even_city(2), lines, trips, ("block", tuple(reversed(range(16))), (0,) * 15, None))

    def test_turns_and_drives(self):
        for at in range(3):
            drive = BLOCK[2][at]
            for turn in (drive, drive + 1, 59, 60):
                self.assert_yes(is_block, *DAY, put(BLOCK, (2, at), turn))
            for turn in (drive - 1, 1, 0):
                self.assert_form_alone(put(BLOCK, (2, at), turn))
            for turn in [61, 62, -1, 10 ** 29] + NO_INTEGERS:
                self.assert_no_form(put(BLOCK, (2, at), turn))

    def test_no_turn_where_it_stands(self):
        self.assert_yes(is_block, *DAY, ("block", (0, 4), (0,), None))
        self.assert_no_form(("block", (0, 4), (False,), None))

    def test_as_many_turns(self):
        for wrong in ((), (6, 7), (6, 7, 9, 0), (60,)):
            self.assert_no_form(put(BLOCK, (2,), wrong))
        self.assert_no_form(put(ALONE, (2,), (0,)))
        self.assert_no_form(put(ALONE, (2,), None))

    def test_batteries(self):
        for at in range(3):
            for need in (1, 2, 49, 50):
                self.assert_yes(is_block, *DAY, put(CHARGED, (3, 1, at), need))
            for need in [51, 0, -1, 99, 10 ** 29] + NO_INTEGERS:
                self.assert_no_form(put(CHARGED, (3, 1, at), need))
            self.assert_yes(is_block, *DAY, put(put(CHARGED, (3, 0), 99), (3, 1, at), 99))
        for full in (30, 31, 98, 99):
            self.assert_yes(is_block, *DAY, put(CHARGED, (3, 0), full))
        for full in [29, 20, 0, -1, 100, 101, 10 ** 29] + NO_INTEGERS:
            self.assert_no_form(put(CHARGED, (3, 0), full))
        for full in [0, 100] + NO_INTEGERS:
            self.assert_no_form(put(put(CHARGED, (3, 1), (1, 1, 1)), (3, 0), full))
        self.assert_yes(is_block, *DAY, put(CHARGED, (3,), (1, (1, 1, 1), 1)))
        for rate in range(1, 10):
            self.assert_yes(is_block, *DAY, put(CHARGED, (3, 2), rate))
        for rate in [0, -1, 10, 11, 10 ** 29] + NO_INTEGERS:
            self.assert_no_form(put(CHARGED, (3, 2), rate))

    def test_as_many_needs(self):
        for wrong in ((), (10, 20), (10, 20, 30, 40), 10, None, [10, 20, 30]):
            self.assert_no_form(put(CHARGED, (3, 1), wrong))
        self.assert_no_form(put(ALONE_CHARGED, (3, 1), ()))
        self.assert_no_form(put(ALONE_CHARGED, (3, 1), (9, 9)))

    def test_the_three_parts_of_a_battery(self):
        for wrong in (CHARGED[3][:2], CHARGED[3] + (2,), (), list(CHARGED[3])):
            self.assert_no_form(put(CHARGED, (3,), wrong))
        for wrong in OTHERS:
            if wrong is not None:
                self.assert_no_form(put(CHARGED, (3,), wrong))
                self.assert_no_form(put(ALONE, (3,), wrong))

    def test_a_battery_goes_on_where_it_stands(self):
        battery = (50, (10, 10, 10, 10), 2)
        self.assert_form_alone(put(put(BLOCK, (2,), (60, 60, 60)), (3,), battery))
        for trips in ((0, 3), (0, 1, 3), (0, 1, 5, 3), (4, 0, 3)):
            many = len(trips)
            block = ("block", trips, (60,) * (many - 1), None)
            self.assert_yes(is_block, *DAY, block)
            self.assert_form_alone(put(block, (3,), (50, (10,) * many, 2)))
        self.assert_yes(is_block, *DAY, ("block", (4, 0, 1, 2), (0, 0, 60), battery))

    def test_the_four_parts(self):
        for wrong in ("Block", "duty", "", None, 0, True, ("block",), b"block"):
            self.assert_no_form(put(BLOCK, (0,), wrong))
        for wrong in (BLOCK[:3], BLOCK + (None,), BLOCK[1:], BLOCK[1:] + ("block",)):
            self.assert_no_form(wrong)

    def test_tuples_alone(self):
        for block in (BLOCK, CHARGED, ALONE, FAR):
            for path in paths(block):
                if isinstance(part(block, path), tuple):
                    self.assert_no_form(put(block, path, list(part(block, path))))
            self.assert_no_form(listed(block))

    def test_every_part_of_every_other_kind(self):
        for block in (BLOCK, CHARGED, ALONE_CHARGED):
            for path in paths(block):
                for wrong in OTHERS:
                    if type(wrong) is not type(part(block, path)) and (path != (3,) or wrong is not None):
                        self.assert_no_form(put(block, path, wrong))

    def test_values_of_all_other_kinds(self):
        for value in OTHERS:
            self.assert_no_form(value)

    def test_errors_in_their_sequence(self):
        for call in (is_block, are_blocks):
            for city in OTHERS + [list(TOWN), even_city(13)]:
                self.assert_error(InvalidCity, [city], call, city, None, None, None)
                self.assert_error(InvalidCity, [city], call, city, *DAY[1:], BLOCK)
            for lines in OTHERS + [list(TOWN_LINES), TOWN_LINES * 3]:
                self.assert_error(InvalidLines, [lines], call, TOWN, lines, None, None)
            for trips in OTHERS + [list(TOWN_TRIPS), TOWN_TRIPS * 2, TOWN_TRIPS[::-1], put(TOWN_TRIPS, (1, 2, 1), 47)]:
                self.assert_error(InvalidTrips, [trips], call, TOWN, TOWN_LINES, trips, BLOCK)

    def test_names_of_parameters(self):
        self.assert_by_name(is_block, city=TOWN, lines=TOWN_LINES, trips=TOWN_TRIPS, value=BLOCK)
        self.assert_by_name(are_blocks, city=TOWN, lines=TOWN_LINES, trips=TOWN_TRIPS, value=(BLOCK,))
        self.assert_by_name(block_place, blocks=[BLOCK], trip=1)
        self.assert_by_name(first_level, block=BUS)
        self.assert_by_name(lack, block=BUS, place=1, level=20)
        self.assert_by_name(ready, block=BUS, place=1, level=20, arrival=100)
        self.assert_by_name(charged, block=BUS, place=1, level=20, arrival=100, departure=113)
        self.assert_by_name(levels, block=BUS, times=[(0, 9), (30, 40)])


class Places(Case):
    def test_places(self):
        blocks = [BLOCK, CHARGED, ALONE]
        for trip, expected in ((0, (0, 0)), (3, (0, 1)), (1, (0, 2)), (5, (0, 3)), (2, (1, 2)), (4, (2, 0)), (6, None)):
            self.assert_told(expected, block_place, blocks, trip)
            self.assert_told(expected, block_place, tuple(blocks), trip)
        self.assert_told((0, 1), block_place, [CHARGED, BLOCK], 1)
        self.assert_told((1, 0), block_place, (ALONE, FAR), 10 ** 20)
        self.assert_told(None, block_place, [], 0)
        self.assert_told(None, block_place, (), 10 ** 29)
        self.assert_told((0, 1), block_place, [put(BLOCK, (1, 1), Few.TWO)], Few.TWO)

    def test_trips(self):
        for wrong in [-1, -(10 ** 29)] + NO_INTEGERS:
            self.assert_error(InvalidTrip, [wrong], block_place, [BLOCK], wrong)
            self.assert_error(InvalidTrip, [wrong], block_place, [], wrong)


class Levels(Case):
    def test_first_level(self):
        self.assert_told(None, first_level, BLOCK)
        self.assert_told(40, first_level, CHARGED)
        self.assert_told(0, first_level, ALONE_CHARGED)
        self.assert_told(98, first_level, FAR)
        self.assert_told(0, first_level, ("block", (5,), (), (Few.TWO, (Few.TWO,), Few.ONE)))

    def test_as_the_document_tells(self):
        """[22]: full 20, needs 15, 10, 15, rate 1, turns 0."""
        self.assert_told(5, first_level, HELD)
        self.assert_told(105, ready, HELD, 1, 5, 100)
        self.assert_told(0, charged, HELD, 1, 5, 100, 105)
        self.assert_told(135, ready, HELD, 2, 0, 120)
        self.assert_told(7, charged, HELD, 1, 5, 100, 112)
        self.assert_told(135, ready, HELD, 2, 7, 127)
        self.assert_told([5, 0, 0], levels, HELD, [(80, 100), (105, 120), (135, 150)])
        self.assert_told([5, 7, 0], levels, HELD, [(80, 100), (112, 127), (135, 150)])

    def test_minute_by_minute(self):
        draw = random.Random(22)
        for _ in range(300):
            many = draw.randint(2, 4)
            full, rate = draw.randint(1, 99), draw.randint(1, 9)
            battery = (full, tuple(draw.randint(1, full) for _ in range(many)), rate)
            turns = tuple(draw.choice((0, 1, 5, 60)) for _ in range(many - 1))
            for block in (("block", tuple(range(many)), turns, battery), ("block", tuple(range(many)), turns, None)):
                place = draw.randint(1, many - 1)
                level = draw.randint(0, full) if block[3] else None
                arrival = draw.choice((0, 100, 2500))
                self.assert_told(lack_by_minutes(block, place, level), lack, block, place, level)
                begin = ready_by_minutes(block, place, level, arrival)
                self.assert_told(begin, ready, block, place, level, arrival)
                for departure in (begin, begin + 1, begin + 7, begin + 200):
                    left = charged_by_minutes(block, place, level, arrival, departure)
                    self.assert_told(left, charged, block, place, level, arrival, departure)
                    if left is not None:
                        self.assertTrue(0 <= left <= full)
                if begin:
                    self.assert_error(InvalidDeparture, [begin - 1], charged, block, place, level, arrival, begin - 1)
                self.assert_levels_by_minutes(draw, block)

    def assert_levels_by_minutes(self, draw, block):
        minute, level = draw.choice((0, 50)), None if block[3] is None else block[3][0] - block[3][1][0]
        times, expected = [], [level]
        for place in range(len(block[1])):
            if place:
                begin = ready_by_minutes(block, place, level, minute)
                if begin:
                    soon = times + [(begin - 1, begin)]
                    soon = soon + [(10 ** 6, 10 ** 6 + at) for at in range(len(block[1]) - len(soon))]
                    self.assert_error(InvalidTimes, [soon], levels, block, soon)
                departure = begin + draw.choice((0, 0, 1, 9))
                level = charged_by_minutes(block, place, level, minute, departure)
                expected.append(level)
                minute = departure
            times.append((minute, minute + draw.choice((0, 1, 20))))
            minute = times[-1][1]
        self.assert_told(expected, levels, block, times)
        self.assert_told(expected, levels, block, tuple(times))

    def test_lacks_at_the_edges(self):
        for level, minutes in ((0, 20), (1, 20), (2, 19), (38, 1), (39, 1), (40, 0), (41, 0), (50, 0)):
            self.assert_told(minutes, lack, BUS, 1, level)
            self.assert_told(100 + max(4, minutes), ready, BUS, 1, level, 100)
        for place in (1, 2, 3):
            self.assert_told(0, lack, BLOCK, place, None)
            self.assert_told(7 + BLOCK[2][place - 1], ready, BLOCK, place, None, 7)
        whole = put(BUS, (3, 1, 1), 50)
        self.assert_told(1, lack, whole, 1, 49)
        self.assert_told(0, lack, whole, 1, 50)

    def test_great_numbers(self):
        self.assert_told(10 ** 29 + 4, ready, BUS, 1, 50, 10 ** 29)
        self.assert_told(10, charged, BUS, 1, 0, 0, 10 ** 29)
        self.assert_told([20, 10], levels, BUS, [(0, 10 ** 28), (10 ** 29, 10 ** 29)])

    def test_a_single_trip_and_none_behind(self):
        self.assert_told([0], levels, ALONE_CHARGED, [(5, 5)])
        self.assert_told([None], levels, ALONE, ((0, 0),))
        for place in (0, 1, 2):
            self.assert_error(InvalidPlace, [place], lack, ALONE, place, None)

    def test_places(self):
        for block, level in ((BUS, 20), (HELD, 20), (BLOCK, None), (ALONE, None)):
            many = len(block[1])
            for wrong in [0, -1, many, many + 1, 10 ** 29] + NO_INTEGERS:
                self.assert_error(InvalidPlace, [wrong], lack, block, wrong, level)
                self.assert_error(InvalidPlace, [wrong], ready, block, wrong, level, 0)
                self.assert_error(InvalidPlace, [wrong], charged, block, wrong, level, 0, 1000)

    def test_levels_of_a_battery(self):
        for wrong in [-1, 51, 52, 10 ** 29] + NO_INTEGERS:
            self.assert_error(InvalidLevel, [wrong], lack, BUS, 1, wrong)
            self.assert_error(InvalidLevel, [wrong], ready, BUS, 1, wrong, 0)
            self.assert_error(InvalidLevel, [wrong], charged, BUS, 1, wrong, 0, 1000)
        for wrong in OTHERS:
            if wrong is not None:
                self.assert_error(InvalidLevel, [wrong], lack, BLOCK, 1, wrong)
                self.assert_error(InvalidLevel, [wrong], ready, BLOCK, 1, wrong, 0)
                self.assert_error(InvalidLevel, [wrong], charged, BLOCK, 1, wrong, 0, 1000)
        self.assert_error(InvalidLevel, [None], lack, FAR, 2, None)

    def test_arrivals_and_departures(self):
        for wrong in [-1, -(10 ** 29)] + NO_INTEGERS:
            self.assert_error(InvalidArrival, [wrong], ready, BUS, 1, 20, wrong)
            self.assert_error(InvalidArrival, [wrong], charged, BUS, 1, 20, wrong, 1000)
            self.assert_error(InvalidArrival, [wrong], ready, BLOCK, 1, None, wrong)
            self.assert_error(InvalidDeparture, [wrong], charged, BUS, 1, 20, 0, wrong)
            self.assert_error(InvalidDeparture, [wrong], charged, BLOCK, 2, None, 0, wrong)
        for wrong in (0, 99, 100, 109):
            self.assert_error(InvalidDeparture, [wrong], charged, BUS, 1, 20, 100, wrong)
        self.assert_told(0, charged, BUS, 1, 20, 100, 110)
        self.assert_error(InvalidDeparture, [106], charged, BLOCK, 2, None, 100, 106)
        self.assert_told(None, charged, BLOCK, 2, None, 100, 107)
        self.assert_told(None, charged, ("block", (1, 2), (0,), None), 1, None, 0, 0)

    def test_times(self):
        good = [(80, 100), (112, 127), (135, 150)]
        for wrong in OTHERS + [good[:2], good + [(200, 210)], (tuple(good), ), [list(row) for row in good], dict(good)]:
            self.assert_error(InvalidTimes, [wrong], levels, HELD, wrong)
        for place in range(3):
            for wrong in OTHERS + [good[place][:1], good[place] + (0,), good[place][::-1], list(good[place])]:
                self.assert_error(InvalidTimes, [put(good, (place,), wrong)], levels, HELD, put(good, (place,), wrong))
            for at in (0, 1):
                for wrong in [-1, -(10 ** 29)] + NO_INTEGERS:
                    times = put(good, (place, at), wrong)
                    self.assert_error(InvalidTimes, [times], levels, HELD, times)
            early = put(good, (place, 1), good[place][0] - 1)
            self.assert_error(InvalidTimes, [early], levels, HELD, early)
        self.assert_error(InvalidTimes, [[]], levels, ALONE, [])
        self.assert_error(InvalidTimes, [[(False, 1)]], levels, ALONE, [(False, 1)])
        self.assert_error(InvalidTimes, [[(0, True)]], levels, ALONE, [(0, True)])

    def test_times_just_in_time(self):
        self.assert_told([None] * 4, levels, BLOCK, [(0, 10), (16, 20), (27, 30), (39, 39)])
        for place, minute in ((1, 15), (2, 26), (3, 38)):
            times = put([(0, 10), (16, 20), (27, 30), (39, 39)], (place, 0), minute)
            self.assert_error(InvalidTimes, [times], levels, BLOCK, times)
        self.assert_told([5, 0, 0], levels, HELD, [(80, 100), (105, 120), (135, 150)])
        for place, minute in ((1, 104), (2, 134)):
            times = put([(80, 100), (105, 120), (135, 150)], (place, 0), minute)
            self.assert_error(InvalidTimes, [times], levels, HELD, times)

    def test_an_arrival_with_its_departure(self):
        self.assert_told([40, 20, 0], levels, CHARGED, [(0, 0), (0, 0), (5, 5)])

    def test_errors_in_their_sequence(self):
        right = [BUS, 1, 20, 100, 110]
        wrong = [None, 0, None, None, None]
        kinds = [InvalidBlock, InvalidPlace, InvalidLevel, InvalidArrival, InvalidDeparture]
        for call, many in ((charged, 5), (ready, 4), (lack, 3)):
            for at in range(many):
                self.assert_error(kinds[at], [wrong[at]], call, *(right[:at] + wrong[at:many]))
                self.assert_error(kinds[at], [wrong[at]], call, *(right[:at] + wrong[at:at + 1] + right[at + 1:many]))
        self.assert_error(InvalidBlock, [None], levels, None, None)

    def test_plain_results(self):
        block = ("block", (Few.NONE, Few.ONE), (Few.ONE,), (Few.TWO, (Few.ONE, Few.TWO), Few.ONE))
        self.assert_told(1, lack, block, Few.ONE, Few.ONE)
        self.assert_told(3, ready, block, Few.ONE, Few.ONE, Few.TWO)
        self.assert_told(0, charged, block, Few.ONE, Few.TWO, Few.ONE, Few.TWO)
        self.assert_told([1, 0], levels, block, [(Few.NONE, Few.ONE), (Few.TWO, Few.TWO)])


if __name__ == "__main__":
    unittest.main()
