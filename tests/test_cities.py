"""[5] cities, [12] way tables."""

import itertools
import random
import unittest

from citylines.cities import (
    change_between, closed, drive_between, is_city, is_closed, is_way_table, walk_between,
)
from citylines.errors import InvalidCity, InvalidStop, InvalidTable
from helpers import CITY, Case, Few, NO_INTEGERS, OTHERS, even_city, even_table, listed, part, paths, put


def both_ways(table, one, other, way):
    return put(put(table, (one, other), way), (other, one), way)


def by_rows_of_places(table):
    """Closed as [12] tells it: the least sum along all rows of unlike places."""
    places = range(len(table))

    def least(one, other):
        between = [place for place in places if place not in (one, other)]
        sums = []
        for many in range(len(between) + 1):
            for row in itertools.permutations(between, many):
                stops = (one,) + row + (other,)
                sums.append(sum(table[a][b] for a, b in zip(stops, stops[1:])))
        return min(sums)

    return tuple(tuple(0 if one == other else least(one, other) for other in places) for one in places)


def some_table(draw, many, most):
    rows = [[0] * many for _ in range(many)]
    for one in range(many):
        for other in range(one):
            rows[one][other] = rows[other][one] = draw.randint(1, most)
    return tuple(tuple(row) for row in rows)


class WayTables(Case):
    def assert_no_table(self, value):
        self.assert_no(is_way_table, value)
        self.assert_no(is_closed, value)
        self.assert_error(InvalidTable, [value], closed, value)

    def test_bounds(self):
        for many in (1, 2, 3, 11, 12):
            for way in (1, 2, 60, 119, 120):
                self.assert_yes(is_way_table, even_table(many, way))
                self.assert_yes(is_closed, even_table(many, way))
                self.assert_told(even_table(many, way), closed, even_table(many, way))
        for value in ((), even_table(13, 5), even_table(14, 120), even_table(2, 121), even_table(3, 121)):
            self.assert_no_table(value)

    def test_each_number(self):
        for many in (1, 2, 3, 12):
            table = even_table(many, 60)
            for one in (0, many // 2, many - 1):
                for other in (0, many // 2, many - 1):
                    for wrong in [-1, 121, 0 if one != other else 1] + NO_INTEGERS:
                        self.assert_no_table(put(table, (one, other), wrong))
                        self.assert_no_table(both_ways(table, one, other, wrong))

    def test_the_greatest_way_at_each_place(self):
        for one, other in ((0, 1), (0, 11), (5, 6), (10, 11)):
            table = both_ways(even_table(12, 60), one, other, 120)
            self.assert_yes(is_way_table, table)
            self.assert_yes(is_closed, table)

    def test_as_much_as_back(self):
        for one, other in ((0, 1), (1, 0), (0, 11), (5, 6), (7, 6), (11, 10)):
            for way in (59, 61):
                self.assert_no_table(put(even_table(12, 60), (one, other), way))

    def test_nought_just_to_itself(self):
        for many in (2, 3, 12):
            for one in (0, many // 2, many - 1):
                self.assert_no_table(put(even_table(many, 1), (one, one), 1))
                other = (one + 1) % many
                self.assert_no_table(both_ways(even_table(many, 1), one, other, 0))
        self.assert_no_table(((1,),))

    def test_each_row_as_long(self):
        for many in (1, 2, 3, 12):
            table = even_table(many, 9)
            for at in (0, many // 2, many - 1):
                self.assert_no_table(put(table, (at,), table[at][:-1]))
                self.assert_no_table(put(table, (at,), table[at] + (9,)))
                self.assert_no_table(put(table, (at,), ()))
                for wrong in OTHERS:
                    self.assert_no_table(put(table, (at,), wrong))
            self.assert_no_table(table[:-1] or ())
            self.assert_no_table(table + (table[0],))
            self.assert_no_table(tuple(row + (9,) for row in table))

    def test_tuples_alone(self):
        for many in (1, 3, 12):
            table = even_table(many, 9)
            for path in paths(table):
                if isinstance(part(table, path), tuple):
                    self.assert_no_table(put(table, path, list(part(table, path))))
            self.assert_no_table(listed(table))
            self.assert_no_table(list(table))

    def test_values_of_all_other_kinds(self):
        for value in OTHERS:
            self.assert_no_table(value)
        self.assert_yes(is_way_table, ((0,),))

    def test_bools_are_no_numbers(self):
        self.assert_no_table(((False,),))
        self.assert_no_table(((0, True), (True, 0)))
        self.assert_no_table(((0, 1), (1, False)))
        self.assert_no_table(((0, 1), (True, 0)))

    def test_closed_to_a_minute(self):
        for one, over, other in itertools.permutations((0, 5, 11), 3):
            table = both_ways(both_ways(even_table(12, 60), one, over, 40), over, other, 30)
            just = both_ways(table, one, other, 70)
            self.assert_yes(is_closed, just)
            self.assert_told(just, closed, just)
            above = both_ways(table, one, other, 71)
            self.assert_yes(is_way_table, above)
            self.assert_no(is_closed, above)
            self.assert_told(just, closed, above)

    def test_far_ways_over_many_places(self):
        places = range(12)
        rows = [[0 if one == other else 1 if abs(one - other) == 1 else 120 for other in places] for one in places]
        for order in (list(places), list(reversed(places)), [5, 0, 11, 3, 8, 1, 10, 2, 9, 4, 7, 6]):
            table = tuple(tuple(rows[order[one]][order[other]] for other in places) for one in places)
            expected = tuple(tuple(abs(order[one] - order[other]) for other in places) for one in places)
            self.assert_no(is_closed, table)
            self.assert_told(expected, closed, table)
            self.assert_yes(is_closed, expected)

    def test_against_all_rows_of_places(self):
        draw = random.Random(12)
        for many in (1, 2, 3, 4, 5, 6) * 12:
            table = some_table(draw, many, draw.choice((3, 20, 120)))
            expected = by_rows_of_places(table)
            self.assert_told(expected, closed, table)
            self.assertIs(is_closed(table), table == expected)
            self.assert_yes(is_closed, expected)
            self.assert_told(expected, closed, expected)

    def test_no_closed_one_below_is_above(self):
        draw = random.Random(121)
        for _ in range(200):
            table = some_table(draw, 4, 12)
            below = tuple(tuple(max(number - 1, 0) for number in row) for row in table)
            if is_closed(below):
                self.assertTrue(all(a <= b for one, two in zip(below, closed(table)) for a, b in zip(one, two)))

    def test_plain_results(self):
        table = ((Few.NONE, Few.TWO), (Few.TWO, Few.NONE))
        self.assert_told(((0, 2), (2, 0)), closed, table)

    def test_names_of_parameters(self):
        table = ((0, 4, 20), (4, 0, 6), (20, 6, 0))
        self.assert_by_name(is_way_table, value=table)
        self.assert_by_name(is_closed, value=table)
        self.assert_by_name(closed, table=table)


class Cities(Case):
    def assert_no_city(self, value):
        self.assert_no(is_city, value)
        for call in (change_between, walk_between, drive_between):
            self.assert_error(InvalidCity, [value], call, value, 0, 0)

    def test_cities(self):
        self.assert_yes(is_city, CITY)
        for many in (1, 2, 3, 11, 12):
            self.assert_yes(is_city, even_city(many))

    def test_how_many_stops(self):
        self.assert_no_city(even_city(13))
        self.assert_no_city(even_city(0))
        self.assert_no_city(("city", (), (), (), ()))

    def test_zones_and_changes(self):
        for at, least, most in ((1, 1, 4), (2, 0, 9)):
            for city in (even_city(1), CITY, even_city(12)):
                many = len(city[1])
                for stop in (0, many // 2, many - 1):
                    for right in range(least, most + 1):
                        self.assert_yes(is_city, put(city, (at, stop), right))
                    for wrong in [least - 1, most + 1, -1, 10 ** 29] + NO_INTEGERS:
                        self.assert_no_city(put(city, (at, stop), wrong))
                self.assert_no_city(put(city, (at,), city[at] + (1,)))
                self.assert_no_city(put(city, (at,), city[at][1:]))
                self.assert_no_city(put(city, (at,), list(city[at])))
                for wrong in OTHERS:
                    self.assert_no_city(put(city, (at,), wrong))

    def test_walks_and_drives(self):
        for at in (3, 4):
            self.assert_yes(is_city, put(CITY, (at,), even_table(3, 120)))
            self.assert_yes(is_city, put(even_city(12), (at,), even_table(12, 120)))
            self.assert_yes(is_city, put(CITY, (at,), ((0, 4, 10), (4, 0, 6), (10, 6, 0))))
            for wrong in (
                even_table(2, 5), even_table(4, 5), even_table(3, 121), even_table(3, 0), listed(CITY[at]), list(CITY[at]),
                ((0, 4, 11), (4, 0, 6), (11, 6, 0)), ((0, 5, 5), (5, 0, 11), (5, 11, 0)), ((0, 9, 4), (9, 0, 4), (4, 4, 0)),
                ((0, 4, 9), (4, 0, 6), (9, 7, 0)), ((0, 4, 9), (5, 0, 6), (9, 6, 0)), ((1, 4, 9), (4, 0, 6), (9, 6, 0)),
                ((0, 4, 9), (4, 0, 6), (9, 6, 1)), ((0, 4, 9), (4, False, 6), (9, 6, 0)), ((0, 0, 9), (0, 0, 9), (9, 9, 0)),
                ((0, 1, 9), (True, 0, 9), (9, 9, 0)), ((0, -1, 9), (-1, 0, 9), (9, 9, 0)), CITY[at][:2], CITY[at] + ((0, 0, 0),),
            ):
                self.assert_no_city(put(CITY, (at,), wrong))
            for wrong in OTHERS:
                self.assert_no_city(put(CITY, (at,), wrong))
                self.assert_no_city(put(even_city(1), (at,), wrong))

    def test_walks_may_be_shorter_or_longer_than_drives(self):
        self.assert_yes(is_city, put(CITY, (3,), even_table(3, 1)))
        self.assert_yes(is_city, put(CITY, (4,), even_table(3, 1)))

    def test_the_five_parts(self):
        for wrong in ("City", "line", "", None, 0, True, ("city",), b"city"):
            self.assert_no_city(put(CITY, (0,), wrong))
        self.assert_no_city(CITY[:4])
        self.assert_no_city(CITY + (None,))
        self.assert_no_city(CITY[1:])
        self.assert_no_city(CITY[1:] + ("city",))

    def test_tuples_alone(self):
        for path in paths(CITY):
            if isinstance(part(CITY, path), tuple):
                self.assert_no_city(put(CITY, path, list(part(CITY, path))))
        self.assert_no_city(listed(CITY))

    def test_every_part_of_every_other_kind(self):
        for path in paths(CITY):
            for wrong in OTHERS:
                if type(wrong) is not type(part(CITY, path)):
                    self.assert_no_city(put(CITY, path, wrong))

    def test_between(self):
        for one, other in itertools.product(range(3), repeat=2):
            self.assert_told(CITY[3][one][other], walk_between, CITY, one, other)
            self.assert_told(CITY[4][one][other], drive_between, CITY, one, other)
            change = CITY[2][one] if one == other else CITY[3][one][other]
            self.assert_told(change, change_between, CITY, one, other)
        self.assert_told(0, change_between, even_city(12), 11, 11)
        self.assert_told(5, change_between, even_city(12), 11, 0)

    def test_stops(self):
        for call in (change_between, walk_between, drive_between):
            for wrong in [-1, 3, 4, 10 ** 29] + NO_INTEGERS:
                self.assert_error(InvalidStop, [wrong], call, CITY, wrong, 0)
                self.assert_error(InvalidStop, [wrong], call, CITY, 0, wrong)
            self.assert_error(InvalidStop, [1], call, even_city(1), 0, 1)
            self.assert_error(InvalidStop, [12], call, even_city(12), 12, 0)

    def test_the_first_wrong_one_is_told(self):
        for call in (change_between, walk_between, drive_between):
            self.assert_error(InvalidStop, [3], call, CITY, 3, -1)
            self.assert_error(InvalidStop, [True], call, CITY, True, False)
            self.assert_error(InvalidCity, [None], call, None, 3, -1)
            self.assert_error(InvalidCity, [list(CITY)], call, list(CITY), 0, True)

    def test_plain_results(self):
        city = ("city", (1, 1), (Few.TWO, Few.NONE), ((0, Few.TWO), (2, 0)), ((0, Few.ONE), (1, Few.NONE)))
        self.assert_told(2, change_between, city, 0, 0)
        self.assert_told(2, change_between, city, 0, 1)
        self.assert_told(2, walk_between, city, 0, 1)
        self.assert_told(1, drive_between, city, 0, 1)
        self.assert_told(0, drive_between, city, Few.ONE, Few.ONE)

    def test_names_of_parameters(self):
        self.assert_by_name(is_city, value=CITY)
        for call in (change_between, walk_between, drive_between):
            self.assert_by_name(call, city=CITY, one=0, other=2)


if __name__ == "__main__":
    unittest.main()
