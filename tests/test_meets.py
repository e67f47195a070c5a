"""[8] meets, [27] feeds, [28] who asks, [29] who leaves, and the example of [1]."""

import itertools
import random
import unittest

from citylines.errors import (
    InvalidCity, InvalidDeparture, InvalidFeed, InvalidFeeds, InvalidLines, InvalidMinute, InvalidTrips,
)
from citylines.meets import are_meets, asks, in_vain, is_feed, is_made, is_meet, leaves, quiet, soonest
from helpers import (
    Case, Few, NO_INTEGERS, OTHERS, TOWN, TOWN_LINES, TOWN_TRIPS, even_city, listed, part, paths, put,
)

DAY = (TOWN, TOWN_LINES, TOWN_TRIPS)

MEETS = (
    ("meet", 0, 1, 1, 0, 3, "news"), ("meet", 0, 0, 3, 0, 0, "blind"), ("meet", 2, 0, 3, 0, 60, "news"),
    ("meet", 1, 1, 5, 1, 5, "blind"), ("meet", 3, 0, 5, 2, 7, "news"),
)

# Two lines that cross at a stop, and trips on them at many minutes, for many meets.
CROSS = even_city(3)
CROSS_LINES = (("line", (0, 1), (5,), (), 1), ("line", (1, 2), (5,), (), 1))
CROSS_TRIPS = tuple(("trip", 0, (10 * at,)) for at in range(5)) + tuple(("trip", 1, (100 + 10 * at,)) for at in range(6))
ALL_CROSS = [("meet", feeder, 0, taker, 0, 1, "blind") for feeder in range(5) for taker in range(5, 11)]

FEED = (10, 21, 10, 1, 24, "news")
BLIND = FEED[:5] + ("blind",)


def all_feeds():
    """Every feed of small numbers, of both ways."""
    for g, n, late, c, till in itertools.product(range(4), range(1, 4), range(4), range(3), range(13)):
        for way in ("blind", "news"):
            yield (g, g + n + late, n, c, till, way)


def soonest_by_words(feed, x):
    g, f, n, c, _, _ = feed
    if g <= x:
        return f + c
    return x + 1 + n + c


def asks_by_words(feed, x):
    _, f, _, c, till, way = feed
    if not f + c > x:
        return False
    if not x < till:
        return False
    return way != "news" or soonest_by_words(feed, x) <= till


def quiet_by_minutes(feed):
    minute = 0
    while asks_by_words(feed, minute):
        minute += 1
    return minute


def leaves_by_minutes(q, feeds):
    minute = q
    while any(asks_by_words(feed, minute) for feed in feeds):
        minute += 1
    return minute


def in_vain_by_words(q, feeds):
    departure = leaves_by_minutes(q, feeds)
    return [
        at for at, feed in enumerate(feeds) if quiet_by_minutes(feed) > q and not feed[1] + feed[3] <= departure
    ]


class Meets(Case):
    def assert_no_meet(self, value):
        self.assert_no(is_meet, *DAY, value)
        for meets in ((value,), (value,) + MEETS[:2], MEETS[:1] + (value,) + MEETS[1:2], MEETS + (value,)):
            self.assert_no(are_meets, *DAY, meets)

    def test_meets(self):
        for meet in MEETS:
            self.assert_yes(is_meet, *DAY, meet)
            self.assert_yes(are_meets, *DAY, (meet,))
        self.assert_yes(are_meets, *DAY, MEETS)
        self.assert_yes(are_meets, *DAY, ())

    def test_the_change_of_one_stop_just_in_time(self):
        # Trip 2 comes behind its hop 0 to the stop 1 at 36; the change there is 3.
        for minute, expected in ((60, True), (40, True), (39, True), (38, False), (37, False), (36, False)):
            trips = put(TOWN_TRIPS, (3, 2, 0), minute)
            self.assertIs(is_meet(TOWN, TOWN_LINES, trips, ("meet", 2, 0, 3, 0, 0, "news")), expected)
            self.assertIs(are_meets(TOWN, TOWN_LINES, trips, (("meet", 2, 0, 3, 0, 60, "blind"),)), expected)

    def test_the_walk_just_in_time(self):
        # Behind its hop 1 it comes to the stop 2 at 45; the walk to the stop 1 is 18.
        for minute, expected in ((64, True), (63, True), (62, False), (46, False)):
            trips = put(TOWN_TRIPS, (3, 2, 0), minute)
            self.assertIs(is_meet(TOWN, TOWN_LINES, trips, ("meet", 2, 1, 3, 0, 0, "news")), expected)
        # Trip 1 comes behind its hop 1 to the stop 1 at 61, behind its hop 2 to the stop 0 at 71.
        for hop, minute in ((0, 48 + 10), (1, 61 + 18), (2, 71 + 27)):
            for told, expected in ((minute + 1, True), (minute, True), (minute - 1, False)):
                trips = TOWN_TRIPS[:4] + (("trip", 3, (told,)),)
                self.assertIs(is_meet(TOWN, TOWN_LINES, trips, ("meet", 1, hop, 4, 0, 60, "blind")), expected)

    def test_the_hop_of_the_taker(self):
        # Trip 4 comes to the stop 0 at 109; trip 5 leaves 2 at 90, 3 at 98, 1 at 113: too soon for walks of 15 and more.
        for hop in range(3):
            self.assert_no_meet(("meet", 4, 0, 5, hop, 60, "blind"))
        for told, expected in ((124, True), (123, False)):
            trips = put(TOWN_TRIPS, (5, 2, 2), told)
            self.assertIs(is_meet(TOWN, TOWN_LINES, trips, ("meet", 4, 0, 5, 2, 0, "news")), expected)
            self.assert_no(is_meet, TOWN, TOWN_LINES, trips, ("meet", 4, 0, 5, 1, 0, "news"))

    def test_told_is_told_and_waits_help_nobody(self):
        trips = put(TOWN_TRIPS, (3, 2, 0), 38)
        self.assert_no(is_meet, TOWN, TOWN_LINES, trips, ("meet", 2, 0, 3, 0, 60, "blind"))

    def test_unlike_trips(self):
        line = ("line", (0, 1, 0, 1), (5, 5, 5), (0, 0), 1)
        trips = (("trip", 0, (10, 40, 90)), ("trip", 0, (11, 41, 91)))
        for hop, other in itertools.product(range(3), repeat=2):
            self.assert_no(is_meet, even_city(2), (line,), trips, ("meet", 0, hop, 0, other, 3, "news"))
            self.assert_no(is_meet, even_city(2), (line,), trips, ("meet", 1, hop, 1, other, 3, "news"))
        self.assert_yes(is_meet, even_city(2), (line,), trips, ("meet", 0, 0, 1, 1, 3, "news"))
        self.assert_yes(is_meet, even_city(2), (line,), trips, ("meet", 1, 0, 0, 1, 3, "news"))

    def test_trips_and_hops(self):
        for meet in MEETS:
            for at in (1, 3):
                for wrong in [-1, 6, 7, 10 ** 29] + NO_INTEGERS:
                    self.assert_no_meet(put(meet, (at,), wrong))
            for at in (2, 4):
                hops = len(TOWN_TRIPS[meet[at - 1]][2])
                for wrong in [-1, hops, hops + 1, 10 ** 29] + NO_INTEGERS:
                    self.assert_no_meet(put(meet, (at,), wrong))
        self.assert_no_meet(("meet", False, 1, 1, 0, 3, "news"))
        self.assert_no_meet(("meet", 0, True, 1, 0, 3, "news"))
        self.assert_no_meet(("meet", 0, 1, True, 0, 3, "news"))
        self.assert_no_meet(("meet", 0, 1, 1, False, 3, "news"))

    def test_waits_and_ways(self):
        for meet in MEETS:
            for wait in (0, 1, 59, 60):
                self.assert_yes(is_meet, *DAY, put(meet, (5,), wait))
            for wait in [-1, 61, 62, 10 ** 29] + NO_INTEGERS:
                self.assert_no_meet(put(meet, (5,), wait))
            for way in ("blind", "news"):
                self.assert_yes(is_meet, *DAY, put(meet, (6,), way))
            for way in ["Blind", "new", "newss", "", "meet", ("news",), b"news"] + OTHERS:
                self.assert_no_meet(put(meet, (6,), way))

    def test_the_seven_parts(self):
        for wrong in ("Meet", "feed", "", None, 0, True, ("meet",), b"meet"):
            self.assert_no_meet(put(MEETS[0], (0,), wrong))
        for wrong in (MEETS[0][:6], MEETS[0] + (None,), MEETS[0][1:], MEETS[0][1:] + ("meet",), list(MEETS[0])):
            self.assert_no_meet(wrong)

    def test_every_part_of_every_other_kind(self):
        for meet in MEETS:
            for path in paths(meet):
                for wrong in OTHERS:
                    if type(wrong) is not type(part(meet, path)):
                        self.assert_no_meet(put(meet, path, wrong))

    def test_values_of_all_other_kinds(self):
        for value in OTHERS:
            self.assert_no_meet(value)
            if not (isinstance(value, tuple) and len(value) == 0):
                self.assert_no(are_meets, *DAY, value)
        self.assert_no(are_meets, *DAY, list(MEETS))
        self.assert_no(are_meets, *DAY, [])
        self.assert_no(are_meets, *DAY, MEETS[0])

    def test_how_many(self):
        day = (CROSS, CROSS_LINES, CROSS_TRIPS)
        self.assertEqual(30, len(ALL_CROSS))
        for meet in ALL_CROSS:
            self.assert_yes(is_meet, *day, meet)
        for many in (0, 1, 2, 23, 24):
            self.assert_yes(are_meets, *day, tuple(ALL_CROSS[:many]))
        for many in (25, 26, 30):
            self.assert_no(are_meets, *day, tuple(ALL_CROSS[:many]))

    def test_no_two_of_the_same_two_rides(self):
        for first, second in itertools.product(range(5), repeat=2):
            for other in (MEETS[first], put(MEETS[first], (5,), 11), put(MEETS[first], (6,), "blind")):
                meets = MEETS[:second] + (other,) + MEETS[second:]
                self.assert_yes(is_meet, *DAY, other)
                self.assert_no(are_meets, *DAY, meets)
        # One ride alike, or the trips alike, is no hindrance.
        self.assert_yes(are_meets, *DAY, (("meet", 0, 0, 5, 1, 3, "news"), ("meet", 0, 1, 5, 1, 3, "news")))
        self.assert_yes(are_meets, *DAY, (("meet", 0, 1, 5, 0, 3, "news"), ("meet", 0, 1, 5, 1, 3, "news")))
        self.assert_yes(are_meets, *DAY, (("meet", 0, 1, 1, 0, 3, "news"), ("meet", 0, 1, 5, 0, 3, "news")))
        self.assert_yes(are_meets, *DAY, (("meet", 0, 1, 5, 0, 3, "news"), ("meet", 2, 1, 5, 0, 3, "news")))

    def test_errors_in_their_sequence(self):
        for call in (is_meet, are_meets):
            for city in OTHERS + [list(TOWN), even_city(13)]:
                self.assert_error(InvalidCity, [city], call, city, None, None, None)
                self.assert_error(InvalidCity, [city], call, city, *DAY[1:], MEETS[0])
            for lines in OTHERS + [list(TOWN_LINES), TOWN_LINES * 3]:
                self.assert_error(InvalidLines, [lines], call, TOWN, lines, None, None)
            for trips in OTHERS + [list(TOWN_TRIPS), TOWN_TRIPS * 2, TOWN_TRIPS[::-1], put(TOWN_TRIPS, (1, 2, 1), 47)]:
                self.assert_error(InvalidTrips, [trips], call, TOWN, TOWN_LINES, trips, MEETS)

    def test_names_of_parameters(self):
        self.assert_by_name(is_meet, city=TOWN, lines=TOWN_LINES, trips=TOWN_TRIPS, value=MEETS[0])
        self.assert_by_name(are_meets, city=TOWN, lines=TOWN_LINES, trips=TOWN_TRIPS, value=MEETS)
        self.assert_by_name(is_feed, value=FEED)
        self.assert_by_name(soonest, feed=FEED, minute=3)
        self.assert_by_name(asks, feed=FEED, minute=3)
        self.assert_by_name(quiet, feed=FEED)
        self.assert_by_name(is_made, feed=FEED, departure=22)
        self.assert_by_name(leaves, minute=12, feeds=[FEED])
        self.assert_by_name(in_vain, minute=12, feeds=[FEED])


class Feeds(Case):
    def assert_no_feed(self, value):
        self.assert_no(is_feed, value)
        self.assert_error(InvalidFeed, [value], soonest, value, 0)
        self.assert_error(InvalidFeed, [value], soonest, value, None)
        self.assert_error(InvalidFeed, [value], asks, value, 0)
        self.assert_error(InvalidFeed, [value], asks, value, None)
        self.assert_error(InvalidFeed, [value], quiet, value)
        self.assert_error(InvalidFeed, [value], is_made, value, 0)
        self.assert_error(InvalidFeed, [value], is_made, value, None)
        for feeds in ([value], [value, FEED], [FEED, value, FEED], (BLIND, FEED, value)):
            self.assert_error(InvalidFeeds, [feeds], leaves, 0, feeds)
            self.assert_error(InvalidFeeds, [feeds], in_vain, 0, feeds)

    def test_feeds(self):
        for feed in (FEED, BLIND, (0, 1, 1, 0, 0, "news"), (10 ** 28, 10 ** 29, 10 ** 27, 10 ** 29, 10 ** 29, "blind")):
            self.assert_yes(is_feed, feed)
        for feed in all_feeds():
            self.assert_yes(is_feed, feed)

    def test_its_numbers(self):
        for feed in (FEED, BLIND):
            for at in range(5):
                for wrong in [-1, -(10 ** 29)] + NO_INTEGERS:
                    self.assert_no_feed(put(feed, (at,), wrong))
            self.assert_no_feed(put(put(feed, (1,), 10), (2,), 0))
            self.assert_no_feed(put(feed, (2,), 0))
            for f, expected in ((22, True), (20, True), (19, False), (11, False), (10, False), (0, False)):
                self.assertIs(is_feed(put(feed, (1,), f)), expected)
            self.assert_no_feed(put(feed, (1,), 19))
            self.assert_no_feed(put(feed, (0,), 12))
            self.assert_no_feed(put(feed, (2,), 12))
            self.assert_yes(is_feed, put(feed, (2,), 11))
        self.assert_no_feed((False, 10, 10, 1, 15, "news"))
        self.assert_no_feed((0, 10, True, 1, 15, "news"))
        self.assert_no_feed((0, True, 1, 1, 15, "news"))
        self.assert_no_feed((0, 10, 10, True, 15, "news"))
        self.assert_no_feed((0, 10, 10, 1, True, "news"))

    def test_its_way(self):
        for wrong in ["Blind", "new", "newss", "", ("news",), b"news"] + OTHERS:
            self.assert_no_feed(put(FEED, (5,), wrong))

    def test_its_six_parts(self):
        for wrong in (FEED[:5], FEED + (None,), FEED[1:], ("feed",) + FEED, list(FEED), (FEED,)):
            self.assert_no_feed(wrong)
        for value in OTHERS:
            self.assert_no_feed(value)

    def test_every_part_of_every_other_kind(self):
        for feed in (FEED, BLIND):
            for path in paths(feed):
                for wrong in OTHERS:
                    if type(wrong) is not type(part(feed, path)):
                        self.assert_no_feed(put(feed, path, wrong))

    def test_minutes_and_departures(self):
        for wrong in [-1, -(10 ** 29)] + NO_INTEGERS:
            for feed in (FEED, BLIND):
                self.assert_error(InvalidMinute, [wrong], soonest, feed, wrong)
                self.assert_error(InvalidMinute, [wrong], asks, feed, wrong)
                self.assert_error(InvalidDeparture, [wrong], is_made, feed, wrong)
                self.assert_error(InvalidMinute, [wrong], leaves, wrong, [feed])
                self.assert_error(InvalidMinute, [wrong], in_vain, wrong, [feed])
            self.assert_error(InvalidMinute, [wrong], leaves, wrong, None)
            self.assert_error(InvalidMinute, [wrong], in_vain, wrong, [None])

    def test_however_great(self):
        self.assert_told(22, soonest, FEED, 10 ** 29)
        self.assert_told(False, asks, FEED, 2000)
        self.assert_told(True, is_made, FEED, 10 ** 29)
        self.assert_told(10 ** 29, leaves, 10 ** 29, [FEED, BLIND])
        self.assert_told([], in_vain, 2000, [FEED, BLIND])

    def test_lists_of_feeds(self):
        for wrong in OTHERS + [FEED, {0: FEED}, {FEED}, FEED[:5]]:
            if not (isinstance(wrong, (list, tuple)) and len(wrong) == 0):
                self.assert_error(InvalidFeeds, [wrong], leaves, 12, wrong)
                self.assert_error(InvalidFeeds, [wrong], in_vain, 12, wrong)
        for many in (0, 1, 2, 23, 24):
            for feeds in ([FEED] * many, (FEED,) * many):
                self.assert_told(22 if many else 12, leaves, 12, feeds)
                self.assert_told([], in_vain, 12, feeds)
        for many in (25, 26):
            for feeds in ([FEED] * many, (FEED,) * many):
                self.assert_error(InvalidFeeds, [feeds], leaves, 12, feeds)
                self.assert_error(InvalidFeeds, [feeds], in_vain, 12, feeds)

    def test_plain_results(self):
        feed = (Few.ONE, Few.TWO, Few.ONE, Few.NONE, Few.ONE, "news")
        self.assert_told(0, quiet, feed)
        self.assert_told(1, quiet, put(feed, (5,), "blind"))
        self.assert_told(2, quiet, (Few.TWO, 30, 6, 1, 24, "news"))
        self.assert_told(2, soonest, feed, Few.ONE)
        self.assert_told(2, leaves, Few.TWO, [feed])
        self.assert_told(1, leaves, Few.NONE, [put(feed, (5,), "blind")])


class Asking(Case):
    def test_minute_by_minute(self):
        for feed in all_feeds():
            last = quiet_by_minutes(feed)
            self.assertEqual(last, quiet(feed), feed)
            for minute in range(16):
                self.assertEqual(soonest_by_words(feed, minute), soonest(feed, minute))
                self.assertIs(asks(feed, minute), asks_by_words(feed, minute))
                self.assertIs(asks(feed, minute), minute < last)
                self.assertIs(is_made(feed, minute), feed[1] + feed[3] <= minute)
                self.assertLessEqual(soonest(feed, minute), feed[1] + feed[3])
                self.assertLessEqual(soonest(feed, minute), soonest(feed, minute + 1))
                self.assertEqual(leaves_by_minutes(minute, [feed]), leaves(minute, [feed]))
                self.assertEqual(in_vain_by_words(minute, [feed]), in_vain(minute, [feed]))

    def test_many_feeds_minute_by_minute(self):
        draw = random.Random(29)
        feeds = list(all_feeds())
        for _ in range(600):
            some = [draw.choice(feeds) for _ in range(draw.choice((0, 1, 2, 3, 24)))]
            for minute in (0, 1, draw.randint(2, 12), 20):
                expected = leaves_by_minutes(minute, some)
                self.assert_told(expected, leaves, minute, some)
                self.assert_told(in_vain_by_words(minute, some), in_vain, minute, some)
                self.assert_told(in_vain_by_words(minute, some), in_vain, minute, tuple(some))
                mixed = draw.sample(some, len(some))
                self.assert_told(expected, leaves, minute, tuple(mixed))
                self.assertEqual(expected, max([minute] + [quiet(feed) for feed in some]))
                self.assertLessEqual(expected, max([minute] + [feed[4] for feed in some]))

    def test_in_time_just_in_time_late_and_far_too_late(self):
        # Riders at the taker at 20, 24, 25 and 90; till is 24; the taker could leave at 18.
        for f, blind, news, made in ((19, 20, 20, True), (23, 24, 24, True), (24, 24, 13, False), (89, 24, 13, False)):
            for way, expected in (("blind", blind), ("news", news)):
                feed = (18, f, 1, 1, 24, way) if way == "blind" else (13, f, 6, 1, 24, way)
                self.assert_told(expected, quiet, feed)
                self.assert_told(max(expected, 5), leaves, 5, [feed])
                self.assert_told([] if made else [0], in_vain, 5, [feed])
                self.assert_told(made, is_made, feed, 24)

    def test_hope_ends_with_the_departure_or_ahead_of_it(self):
        # Too late for till 24: hope ends when the feeder leaves, at 13, or when leaving then would be too late.
        for g, expected in ((0, 0), (1, 1), (12, 12), (13, 13), (17, 17), (18, 17), (60, 17)):
            feed = (g, g + 30, 6, 1, 24, "news")
            self.assert_told(expected, quiet, feed)
            if expected:
                self.assert_yes(asks, feed, expected - 1)
            self.assert_no(asks, feed, expected)

    def test_till_below_what_is_least(self):
        for till in range(8):
            self.assert_told(0, quiet, (9, 15, 6, 1, till, "news"))
            self.assert_no(asks, (9, 15, 6, 1, till, "news"), 0)
            self.assert_told(till, quiet, (9, 15, 6, 1, till, "blind"))
            self.assert_told(3, leaves, 3, [(9, 15, 6, 1, till, "news")])
            self.assert_told([], in_vain, 3, [(9, 15, 6, 1, till, "news")])
        self.assert_told(1, quiet, (9, 15, 6, 1, 8, "news"))
        self.assert_yes(asks, (9, 15, 6, 1, 8, "news"), 0)
        self.assert_told([0], in_vain, 0, [(9, 15, 6, 1, 8, "news")])

    def test_waits_for_others_make_feeds(self):
        slow, late = (0, 12, 1, 1, 20, "blind"), (0, 12, 1, 1, 11, "blind")
        self.assert_told(11, leaves, 5, [late])
        self.assert_told([0], in_vain, 5, [late])
        self.assert_told(13, leaves, 5, [late, slow])
        self.assert_told([], in_vain, 5, [late, slow])
        self.assert_told([], in_vain, 5, [slow, late])
        lost = (0, 50, 1, 1, 13, "blind")
        self.assert_told([0, 2], in_vain, 5, [lost, slow, lost])
        self.assert_told([1], in_vain, 12, [(0, 50, 1, 1, 12, "blind"), lost])

    def test_the_example_of_the_overview(self):
        """[1]: told to come at 10, a minute's walk, told to leave at 12, waits till 15, at most 2 late."""
        for late, departure, made in (
            (0, 12, True), (1, 12, True), (2, 13, True), (3, 14, True), (4, 15, True), (5, 12, False), (6, 12, False),
        ):
            feed = (0, 10 + late, 10, 1, 15, "news")
            self.assert_told(departure, leaves, 12, [feed])
            self.assert_told(made, is_made, feed, departure)
        self.assertLessEqual(leaves(12, [(0, 13, 10, 1, 15, "news")]) - 12, 2)
        self.assertGreater(leaves(12, [(0, 14, 10, 1, 15, "news")]) - 12, 2)

    def test_two_feeders(self):
        """The example behind [34]: ready at 12, two feeders of 2 minutes each, a change of 1, till is 17."""
        away = (30, 40, 2, 1, 17, "news")
        self.assert_told(14, leaves, 12, [away, away])
        self.assert_told([0, 1], in_vain, 12, [away, away])
        pair = [(13, 19, 2, 1, 17, "news"), (10, 15, 2, 1, 17, "news")]
        self.assert_told(16, leaves, 12, pair)
        self.assert_told([0], in_vain, 12, pair)
        self.assert_told([1], in_vain, 12, pair[::-1])


if __name__ == "__main__":
    unittest.main()
