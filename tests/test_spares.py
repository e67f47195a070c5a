"""[86] to [89]: numbers of spares, leading, chains, trips apart, fewest vehicles."""

import itertools
import random
import unittest

from citylines.blocks import is_block
from citylines.courses import least_course
from citylines.errors import InvalidCity, InvalidLines, InvalidPlan, InvalidTrip, InvalidTrips, InvalidTurn, NoSpares, TooMany
from citylines.spares import fewest_blocks, is_apart, is_chains, leads, spares_that_keep
from helpers import Case, CITY, Few, NO_INTEGERS, OTHERS, TOWN, TOWN_LINES, TOWN_TRIPS, even_city, is_plain
from reckon import Reckoned, courses, least_of
from some_plans import ROWS_4001, STEPS_40001, made, put_part, wide
from told_plans import CASE_B, RICH, case_e, overview

UNSOUND = put_part(CASE_B, "promises", (("driven", 1, 29),))


class Numbers(Case):
    def known(self, plan):
        found = []
        for number in range(4):
            own = put_part(plan, "spares", (number,) + plan[9][1:])
            found.append(least_of([course for course in courses(own) if Reckoned(own, course).breaks]))
        return found

    def test_against_all_courses(self):
        fallen = 0
        for number in range(90):
            plan = made(number, rides=5, bound=3, budget=3, spares=True)
            if len(courses(plan)) <= 60:
                told = self.known(plan)
                self.assert_told(told, spares_that_keep, plan)
                fallen += told.count(None) < 4
        self.assertGreater(fallen, 0)

    def test_one_more_by_which_a_promise_falls(self):
        plan = put_part(case_e((2, 1, 2)), "heard", (8,))
        self.assert_told([None, [8, 4, 0], [8, 4, 0], [8, 4, 0]], spares_that_keep, plan)
        self.assert_told(self.known(plan), spares_that_keep, plan)
        # Promised to be in time, it falls without one alone.
        late = put_part(plan, "promises", (("leaves", 2, 0, 3),))
        self.assert_told([[8, 0, 0], None, None, None], spares_that_keep, late)
        both = put_part(plan, "promises", (("leaves", 2, 0, 3), ("meets", 0)))
        self.assert_told([[8, 0, 0], [8, 4, 0], [8, 4, 0], [8, 4, 0]], spares_that_keep, both)

    def test_the_plans_own_number_has_no_say(self):
        for number in range(4):
            plan = put_part(case_e((number, 1, 2)), "heard", (8,))
            self.assertEqual([None, [8, 4, 0], [8, 4, 0], [8, 4, 0]], spares_that_keep(plan))
        for number in range(12):
            plan = made(number, rides=5, spares=True)
            self.assertEqual(least_course(plan), spares_that_keep(plan)[plan[9][0]])

    def test_errors(self):
        for value in OTHERS + [UNSOUND]:
            self.assert_error(InvalidPlan, [value], spares_that_keep, value)
        for plan in (overview(), CASE_B):
            with self.assertRaises(NoSpares):
                spares_that_keep(plan)
        for what, limit, rows in (("standings", 4000, ROWS_4001), ("steps", 40000, STEPS_40001)):
            self.assert_error(TooMany, [what, limit], spares_that_keep, put_part(wide(*rows), "spares", (0, 1, 2)))
            with self.assertRaises(NoSpares):
                spares_that_keep(wide(*rows))

    def test_by_name_and_plain(self):
        self.assert_by_name(spares_that_keep, plan=RICH)
        own = put_part(case_e((Few.TWO, Few.ONE, Few.TWO)), "heard", (8,))
        self.assert_same([None, [8, 4, 0], [8, 4, 0], [8, 4, 0]], spares_that_keep(own))


def drawn(number, most=6):
    """Lines of TOWN, and some trips of theirs, as they happen to be."""
    rng = random.Random(number)
    trips = []
    for _ in range(rng.randint(1, most)):
        line = rng.randrange(len(TOWN_LINES))
        told = [rng.choice([0, 5, 20, 30, 45, 60, 80, 1900])]
        for least, stand in zip(TOWN_LINES[line][2], TOWN_LINES[line][3]):
            told.append(told[-1] + least + stand + rng.choice([0, 0, 1, 4]))
        trips.append(("trip", line, tuple(told)))
    trips.sort(key=lambda trip: (trip[2], trip[1]))
    kept = []
    for trip in trips:
        ahead = [other for other in kept if other[1] == trip[1]]
        if all(one - two >= TOWN_LINES[trip[1]][4] for other in ahead for one, two in zip(trip[2], other[2])):
            kept.append(trip)
    return tuple(kept)


def does_lead(trips, turn, one, other):
    line, behind = TOWN_LINES[trips[one][1]], TOWN_LINES[trips[other][1]]
    end = trips[one][2][-1] + line[2][-1]
    return end + turn + TOWN[4][line[1][-1]][behind[1][0]] <= trips[other][2][0]


def partings(places):
    """All ways to part the places in chains, in the sequence of their told departures."""
    if not places:
        yield []
        return
    first, rest = places[0], places[1:]
    for many in range(len(rest) + 1):
        for others in itertools.combinations(rest, many):
            for own in partings([place for place in rest if place not in others]):
                yield [[first, *others]] + own


class Chains(Case):
    def test_leads(self):
        for number in range(60):
            trips = drawn(number)
            for turn in (0, 3, 20, 60):
                for one in range(len(trips)):
                    self.assert_told(False, leads, TOWN, TOWN_LINES, trips, turn, one, one)
                    for other in range(len(trips)):
                        self.assert_told(does_lead(trips, turn, one, other), leads, TOWN, TOWN_LINES, trips, turn, one, other)

    def test_just_in_time_and_a_minute_late(self):
        # The first one comes to stop 2 at 27, and line 2 begins at 1, a drive of 6; line 1 begins there at once.
        for turn, minute, told in ((0, 33, True), (0, 32, False), (7, 40, True), (7, 39, False), (60, 93, True), (60, 92, False)):
            trips = (("trip", 0, (10, 20)), ("trip", 2, (minute,)))
            self.assertIs(leads(TOWN, TOWN_LINES, trips, turn, 0, 1), told)
            self.assertIs(is_chains(TOWN, TOWN_LINES, trips, turn, [[0, 1]]), told)
            self.assertIs(is_apart(TOWN, TOWN_LINES, trips, turn, [0, 1]), not told)
            self.assertEqual([1, 1] if told else [2, 2], [len(part) for part in fewest_blocks(TOWN, TOWN_LINES, trips, turn)])
        for turn, minute, told in ((0, 27, True), (0, 26, False), (5, 32, True), (5, 31, False)):
            trips = (("trip", 0, (10, 20)), ("trip", 1, (minute, minute + 8, minute + 23)))
            self.assertIs(leads(TOWN, TOWN_LINES, trips, turn, 0, 1), told)

    def test_fewest_against_all_chains_and_all_apart(self):
        for number in range(120):
            trips = drawn(number)
            for turn in (0, 9):
                places = sorted(range(len(trips)), key=lambda place: trips[place][2])
                fewest = min(
                    len(some) for some in partings(places)
                    if all(does_lead(trips, turn, *pair) for chain in some for pair in zip(chain, chain[1:]))
                )
                most = max(
                    many for many in range(len(trips) + 1) for some in itertools.combinations(range(len(trips)), many)
                    if not any(does_lead(trips, turn, one, other) for one in some for other in some)
                )
                self.assertEqual(fewest, most)
                found = fewest_blocks(TOWN, TOWN_LINES, trips, turn)
                self.assertTrue(is_plain(found) and type(found) is tuple)
                chains, apart = found
                self.assertIs(type(chains), list)
                self.assertTrue(all(type(chain) is list for chain in chains) and type(apart) is list)
                self.assertEqual((fewest, most), (len(chains), len(apart)))
                self.assert_yes(is_chains, TOWN, TOWN_LINES, trips, turn, chains)
                self.assert_yes(is_apart, TOWN, TOWN_LINES, trips, turn, apart)
                self.assertEqual(found, fewest_blocks(TOWN, TOWN_LINES, trips, turn))
                self.assertIsNot(chains, fewest_blocks(TOWN, TOWN_LINES, trips, turn)[0])

    def test_sixteen_trips(self):
        city = even_city(4)
        lines = tuple(("line", (at, (at + 1) % 4), (5,), (), 1) for at in range(4))
        for step, fewest in ((1, None), (3, None), (9, 1), (5, None)):
            trips = tuple(("trip", at % 4, (at * step,)) for at in range(16))
            chains, apart = fewest_blocks(city, lines, trips, 0)
            self.assertEqual(len(chains), len(apart))
            self.assert_yes(is_chains, city, lines, trips, 0, chains)
            self.assert_yes(is_apart, city, lines, trips, 0, apart)
            if fewest is not None:
                self.assertEqual(fewest, len(chains))

    def test_chains_against_all_lists(self):
        for number in range(40):
            trips = drawn(number, 4)
            places = range(len(trips))
            for order in itertools.permutations(places):
                for cuts in itertools.product([0, 1], repeat=max(0, len(trips) - 1)):
                    chains = [[order[0]]]
                    for place, cut in zip(order[1:], cuts):
                        chains.append([place]) if cut else chains[-1].append(place)
                    told = all(does_lead(trips, 2, *pair) for chain in chains for pair in zip(chain, chain[1:]))
                    self.assertIs(is_chains(TOWN, TOWN_LINES, trips, 2, chains), told)
                    self.assertIs(is_chains(TOWN, TOWN_LINES, trips, 2, tuple(map(tuple, chains))), told)

    def test_apart_against_all_lists(self):
        for number in range(60):
            trips = drawn(number)
            for many in range(len(trips) + 1):
                for some in itertools.combinations(range(len(trips)), many):
                    told = not any(does_lead(trips, 2, one, other) for one in some for other in some)
                    self.assertIs(is_apart(TOWN, TOWN_LINES, trips, 2, list(some)), told)
                    self.assertIs(is_apart(TOWN, TOWN_LINES, trips, 2, some), told)
                    if many > 1:
                        self.assert_no(is_apart, TOWN, TOWN_LINES, trips, 2, list(some)[::-1])
                        self.assert_no(is_apart, TOWN, TOWN_LINES, trips, 2, list(some) + [some[-1]])

    def test_lists_that_are_no_chains(self):
        trips = TOWN_TRIPS
        chains, apart = fewest_blocks(TOWN, TOWN_LINES, trips, 0)
        for value in (chains[1:], chains + [[]], chains + [chains[0]], chains + [[6]], chains + [[-1]], [], [[]], [chains], apart):
            self.assert_no(is_chains, TOWN, TOWN_LINES, trips, 0, value)
        self.assert_yes(is_chains, TOWN, TOWN_LINES, trips, 0, [[place] for place in range(6)])
        self.assert_yes(is_chains, TOWN, TOWN_LINES, trips, 0, [[place] for place in (3, 1, 0, 2, 5, 4)])
        self.assert_no(is_chains, TOWN, TOWN_LINES, trips, 0, [[0], [1], [2], [3], [4]])
        self.assert_no(is_chains, TOWN, TOWN_LINES, trips, 0, [[0], [1], [2], [3], [4], [5], [5]])
        self.assert_yes(is_apart, TOWN, TOWN_LINES, trips, 0, [])
        for value in ([6], [-1], [0, 6], [[0]]):
            self.assert_no(is_apart, TOWN, TOWN_LINES, trips, 0, value)

    def test_values_of_all_kinds(self):
        trips = (("trip", 0, (10, 20)), ("trip", 2, (50,)))
        self.assert_yes(is_chains, TOWN, TOWN_LINES, trips, 0, [[Few.NONE, Few.ONE]])
        self.assert_yes(is_apart, TOWN, TOWN_LINES, trips, 0, [Few.ONE])
        for value in OTHERS:
            self.assert_no(is_chains, TOWN, TOWN_LINES, trips, 0, value)
            is_one = type(value) is list and all(type(at) is int for at in value) and value in ([], [1])
            self.assertIs(is_apart(TOWN, TOWN_LINES, trips, 0, value), is_one or (type(value) is tuple and len(value) == 0))
            self.assertIs(is_chains(TOWN, TOWN_LINES, trips, 0, [[0], value]), is_one and len(value) == 1)
            if type(value) is not int:
                self.assert_no(is_chains, TOWN, TOWN_LINES, trips, 0, [[0, value]])
                self.assert_no(is_apart, TOWN, TOWN_LINES, trips, 0, [value])

    def test_each_chain_is_a_block(self):
        for number in range(40):
            trips = drawn(number)
            for chain in fewest_blocks(TOWN, TOWN_LINES, trips, 4)[0]:
                drives = [
                    TOWN[4][TOWN_LINES[trips[one][1]][1][-1]][TOWN_LINES[trips[other][1]][1][0]] for one, other in zip(chain, chain[1:])
                ]
                block = ("block", tuple(chain), tuple(4 + drive for drive in drives), None)
                self.assert_yes(is_block, TOWN, TOWN_LINES, trips, block)

    def test_errors(self):
        calls = ((leads, (None, None)), (fewest_blocks, ()), (is_chains, (None,)), (is_apart, (None,)))
        for call, more in calls:
            for value in OTHERS:
                self.assert_error(InvalidCity, [value], call, value, None, None, None, *more)
                self.assert_error(InvalidLines, [value], call, TOWN, value, None, None, *more)
                self.assert_error(InvalidTrips, [value], call, TOWN, TOWN_LINES, value, None, *more)
            for value in NO_INTEGERS + [-1, 61, 10 ** 29]:
                self.assert_error(InvalidTurn, [value], call, TOWN, TOWN_LINES, TOWN_TRIPS, value, *more)
            self.assert_error(InvalidLines, [TOWN_LINES], call, CITY, TOWN_LINES, TOWN_TRIPS, 0, *more)
            self.assert_error(InvalidTrips, [TOWN_TRIPS], call, TOWN, TOWN_LINES[:2], TOWN_TRIPS, 0, *more)
        for value in NO_INTEGERS + [-1, 6, 10 ** 29]:
            self.assert_error(InvalidTrip, [value], leads, TOWN, TOWN_LINES, TOWN_TRIPS, 0, value, None)
            self.assert_error(InvalidTrip, [value], leads, TOWN, TOWN_LINES, TOWN_TRIPS, 0, 0, value)

    def test_by_name_and_plain(self):
        told = dict(city=TOWN, lines=TOWN_LINES, trips=TOWN_TRIPS, turn=2)
        self.assert_by_name(leads, **told, one=0, other=3)
        self.assert_by_name(fewest_blocks, **told)
        self.assert_by_name(is_chains, **told, value=[[0]])
        self.assert_by_name(is_apart, **told, value=[0])
        self.assertIs(leads(TOWN, TOWN_LINES, TOWN_TRIPS, Few.TWO, Few.NONE, Few.ONE), True)


if __name__ == "__main__":
    unittest.main()
