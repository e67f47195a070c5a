"""[6] lines, [13] least between."""

import unittest

from citylines.cities import drive_between
from citylines.errors import InvalidCity, InvalidHop
from citylines.lines import are_lines, is_line, least_between
from helpers import CITY, Case, Few, NO_INTEGERS, OTHERS, even_city, even_table, listed, part, paths, put

SHORT = ("line", (2, 0), (8,), (), 5)
LINE = ("line", (0, 1, 2), (4, 6), (1,), 3)
WIDE = even_city(12)
LONG = ("line", (0, 1, 2, 3, 11, 3, 0, 1), (4, 5, 6, 7, 8, 9, 99), (0, 1, 2, 3, 4, 30), 30)


def straight(many):
    """A line of the wide city with so many stops."""
    return ("line", tuple(range(many)), (4,) * (many - 1), (0,) * (many - 2), 1)


class Lines(Case):
    def assert_no_line(self, city, value):
        self.assert_no(is_line, city, value)
        good = straight(2) if city == WIDE else SHORT
        for lines in ((value,), (value, good), (good, value), (good, value, good), (good,) * 7 + (value,)):
            self.assert_no(are_lines, city, lines)

    def test_lines(self):
        for city, line in ((CITY, LINE), (CITY, SHORT), (WIDE, LONG)):
            self.assert_yes(is_line, city, line)
            self.assert_yes(are_lines, city, (line,))

    def test_how_many_stops(self):
        for many in range(2, 9):
            self.assert_yes(is_line, WIDE, straight(many))
        for many in (9, 10, 12):
            self.assert_no_line(WIDE, straight(many))
        self.assert_no_line(WIDE, ("line", (0,), (), (), 1))
        self.assert_no_line(WIDE, ("line", (), (), (), 1))

    def test_each_stop(self):
        for at in range(8):
            for wrong in [-1, 12, 13, 10 ** 29] + NO_INTEGERS:
                self.assert_no_line(WIDE, put(LONG, (1, at), wrong))
            self.assert_yes(is_line, WIDE, put(LONG, (1, at), 10))
        self.assert_no_line(CITY, put(LINE, (1, 2), 3))
        self.assert_no_line(even_city(1), ("line", (0, 0), (1,), (), 1))
        self.assert_no_line(even_city(2), ("line", (0, 2), (9,), (), 1))

    def test_neighbours_unlike(self):
        for at in range(7):
            self.assert_no_line(WIDE, put(LONG, (1, at), LONG[1][at + 1]))
        self.assert_no_line(CITY, ("line", (1, 1), (9,), (), 3))
        self.assert_yes(is_line, CITY, ("line", (1, 0, 1), (9, 9), (0,), 3))

    def test_leasts(self):
        for at in range(7):
            for least in (4, 5, 98, 99):
                self.assert_yes(is_line, WIDE, put(LONG, (2, at), least))
            for least in [3, 2, 1, 0, -1, -4, 100, 101, 10 ** 29] + NO_INTEGERS:
                self.assert_no_line(WIDE, put(LONG, (2, at), least))

    def test_leasts_of_a_minute(self):
        near = ("city", (1, 1), (0, 0), even_table(2, 1), even_table(2, 1))
        self.assert_yes(is_line, near, ("line", (0, 1), (1,), (), 1))
        self.assert_no_line(near, ("line", (0, 1), (0,), (), 1))
        self.assert_no(is_line, near, ("line", (0, 1), (True,), (), 1))

    def test_at_least_the_drive_and_not_the_walk(self):
        city = ("city", (1,) * 4, (0,) * 4, even_table(4, 50), ((0, 10, 30, 20), (10, 0, 20, 30), (30, 20, 0, 10), (20, 30, 10, 0)))
        line = ("line", (0, 1, 2, 3, 1, 0), (10, 20, 10, 30, 10), (0, 0, 0, 0), 1)
        self.assert_yes(is_line, city, line)
        for at in range(5):
            self.assert_no(is_line, city, put(line, (2, at), line[2][at] - 1))
        far = put(city, (4,), even_table(4, 100))
        self.assert_no(is_line, far, put(line, (2,), (99,) * 5))
        self.assert_no(is_line, far, put(line, (2,), (100,) * 5))
        self.assert_yes(is_line, put(city, (4,), even_table(4, 99)), put(line, (2,), (99,) * 5))

    def test_stands(self):
        for at in range(6):
            for stand in (0, 1, 29, 30):
                self.assert_yes(is_line, WIDE, put(LONG, (3, at), stand))
            for stand in [-1, 31, 32, 10 ** 29] + NO_INTEGERS:
                self.assert_no_line(WIDE, put(LONG, (3, at), stand))

    def test_apart(self):
        for line in (SHORT, LINE):
            for apart in (1, 2, 29, 30):
                self.assert_yes(is_line, CITY, put(line, (4,), apart))
            for apart in [0, -1, 31, 32, 10 ** 29] + NO_INTEGERS:
                self.assert_no_line(CITY, put(line, (4,), apart))

    def test_as_many_as_there_are_hops(self):
        for city, line in ((CITY, SHORT), (CITY, LINE), (WIDE, LONG)):
            for at, more in ((1, 10 if city == WIDE else 1), (2, 9), (3, 0)):
                self.assert_no_line(city, put(line, (at,), line[at] + (more,)))
                if line[at]:
                    self.assert_no_line(city, put(line, (at,), line[at][:-1]))
        self.assert_no_line(CITY, put(LINE, (3,), ()))
        self.assert_no_line(CITY, put(SHORT, (2,), ()))

    def test_the_five_parts(self):
        for wrong in ("Line", "city", "", None, 0, True, ("line",), b"line"):
            self.assert_no_line(CITY, put(LINE, (0,), wrong))
        self.assert_no_line(CITY, LINE[:4])
        self.assert_no_line(CITY, LINE + (None,))
        self.assert_no_line(CITY, LINE[1:])
        self.assert_no_line(CITY, LINE[1:] + ("line",))

    def test_tuples_alone(self):
        for line in (LINE, SHORT):
            for path in paths(line):
                if isinstance(part(line, path), tuple):
                    self.assert_no_line(CITY, put(line, path, list(part(line, path))))
            self.assert_no_line(CITY, listed(line))

    def test_every_part_of_every_other_kind(self):
        for line in (LINE, SHORT):
            for path in paths(line):
                for wrong in OTHERS:
                    if type(wrong) is not type(part(line, path)):
                        self.assert_no_line(CITY, put(line, path, wrong))

    def test_values_of_all_other_kinds(self):
        for value in OTHERS:
            self.assert_no_line(CITY, value)
            self.assert_no(are_lines, CITY, value)

    def test_how_many_lines(self):
        for many in (1, 2, 7, 8):
            self.assert_yes(are_lines, CITY, (LINE, SHORT) * (many // 2) + (LINE,) * (many % 2))
            self.assert_yes(are_lines, CITY, (LINE,) * many)
        for many in (0, 9, 10):
            self.assert_no(are_lines, CITY, (LINE,) * many)
        for many in (1, 8):
            self.assert_no(are_lines, CITY, [LINE] * many)
        self.assert_no(are_lines, CITY, LINE)

    def test_no_city(self):
        for city in OTHERS + [list(CITY), CITY[:4], even_city(13), put(CITY, (1, 0), True), listed(CITY)]:
            for value in (LINE, None):
                self.assert_error(InvalidCity, [city], is_line, city, value)
                self.assert_error(InvalidCity, [city], are_lines, city, (value,))

    def test_names_of_parameters(self):
        self.assert_by_name(is_line, city=CITY, value=LINE)
        self.assert_by_name(are_lines, city=CITY, value=(LINE, SHORT))
        self.assert_by_name(least_between, line=LINE, first=0, last=1)


class LeastBetween(Case):
    def test_hop_by_hop(self):
        for line in (SHORT, LINE, LONG):
            _, stops, leasts, stands, _ = line
            for first in range(len(leasts)):
                minutes = 0
                for last in range(first, len(leasts)):
                    minutes += leasts[last] + (stands[last - 1] if last > first else 0)
                    self.assert_told(minutes, least_between, line, first, last)

    def test_never_below_the_drive(self):
        _, stops, leasts, _, _ = LONG
        for first in range(7):
            for last in range(first, 7):
                drive = drive_between(WIDE, stops[first], stops[last + 1])
                self.assertGreaterEqual(least_between(LONG, first, last), drive)

    def test_hops(self):
        for wrong in [-1, 2, 3, 10 ** 29] + NO_INTEGERS:
            self.assert_error(InvalidHop, [wrong], least_between, LINE, wrong, 1)
            self.assert_error(InvalidHop, [wrong], least_between, LINE, 0, wrong)
            self.assert_error(InvalidHop, [wrong], least_between, LINE, 1, wrong)
        self.assert_error(InvalidHop, [1], least_between, SHORT, 1, 1)
        self.assert_error(InvalidHop, [1], least_between, SHORT, 0, 1)
        self.assert_error(InvalidHop, [7], least_between, LONG, 0, 7)
        self.assert_error(InvalidHop, [7], least_between, LONG, 7, 6)

    def test_the_last_not_ahead_of_the_first(self):
        self.assert_error(InvalidHop, [0], least_between, LINE, 1, 0)
        self.assert_error(InvalidHop, [5], least_between, LONG, 6, 5)
        self.assert_error(InvalidHop, [0], least_between, LONG, 6, 0)

    def test_the_first_wrong_one_is_told(self):
        self.assert_error(InvalidHop, [2], least_between, LINE, 2, 3)
        self.assert_error(InvalidHop, [True], least_between, LINE, True, False)
        self.assert_error(InvalidHop, [-1], least_between, LINE, -1, None)

    def test_plain_results(self):
        line = ("line", (Few.NONE, Few.ONE), (Few.TWO,), (), Few.ONE)
        self.assert_told(2, least_between, line, Few.NONE, Few.NONE)


if __name__ == "__main__":
    unittest.main()
