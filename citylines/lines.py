"""Lines of a city."""

from citylines.basics import are_within, is_named, is_tuple, is_within
from citylines.cities import check_city, drive_of, is_stop
from citylines.errors import InvalidHop, InvalidLines

MOST_LINES = 8
MOST_LINE_STOPS = 8
LONGEST_HOP = 99
LONGEST_STAND = 30
MOST_APART = 30


def is_line(city, value):
    """Whether any value is a line of the city."""
    check_city(city)
    return is_line_of(city, value)


def are_lines(city, value):
    """Whether any value is a tuple of 1 to 8 lines of the city."""
    check_city(city)
    return are_lines_of(city, value)


def check_lines(city, lines):
    """Raise the error of the first one that is not as the interface wants it."""
    if not are_lines(city, lines):
        raise InvalidLines(lines)


def are_lines_of(city, value):
    """Whether any value is a tuple of 1 to 8 lines of what is known to be a city."""
    if not is_tuple(value, 1, MOST_LINES):
        return False
    return all([is_line_of(city, line) for line in value])


def is_line_of(city, value):
    """Whether any value is a line of what is known to be a city."""
    if not is_named(value, "line", 5):
        return False
    _, stops, leasts, stands, apart = value
    if not are_line_stops(city, stops):
        return False
    hops = len(stops) - 1
    if not are_within(leasts, hops, 1, LONGEST_HOP) or not are_within(stands, hops - 1, 0, LONGEST_STAND):
        return False
    return is_within(apart, 1, MOST_APART) and are_drivable(city, stops, leasts)


def are_line_stops(city, value):
    """Whether any value is a tuple of 2 to 8 stops, neighbours unlike."""
    if not is_tuple(value, 2, MOST_LINE_STOPS):
        return False
    if not all([is_stop(city, stop) for stop in value]):
        return False
    return all([value[hop] != value[hop + 1] for hop in range(len(value) - 1)])


def are_drivable(city, stops, leasts):
    """Whether each hop's least minutes are at least the drive between its two stops."""
    return all([leasts[hop] >= drive_of(city, stops[hop], stops[hop + 1]) for hop in range(len(leasts))])


def least_between(line, first, last):
    """The least minutes from the departure ahead of the first hop to the arrival behind the last one."""
    _, _, leasts, stands, _ = line
    if not is_within(first, 0, len(leasts) - 1):
        raise InvalidHop(first)
    if not is_within(last, first, len(leasts) - 1):
        raise InvalidHop(last)
    return sum(leasts[first:last + 1]) + sum(stands[first:last])
