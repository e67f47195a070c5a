"""Cities, their way tables, and the changes, walks and drives between stops."""

from citylines.basics import are_within, is_named, is_tuple, is_within
from citylines.errors import InvalidCity, InvalidStop, InvalidTable

MOST_STOPS = 12
LAST_ZONE = 4
LONGEST_CHANGE = 9
LONGEST_WAY = 120


def is_city(value):
    """Whether any value is a city."""
    if not is_named(value, "city", 5):
        return False
    _, zones, changes, walks, drives = value
    if not is_tuple(zones, 1, MOST_STOPS):
        return False
    many = len(zones)
    if not are_within(zones, many, 1, LAST_ZONE) or not are_within(changes, many, 0, LONGEST_CHANGE):
        return False
    return all([is_closed(table) and len(table) == many for table in (walks, drives)])


def check_city(city):
    """Raise InvalidCity unless it is a city."""
    if not is_city(city):
        raise InvalidCity(city)


def is_way_table(value):
    """Whether any value is a way table."""
    if not is_tuple(value, 1, MOST_STOPS):
        return False
    many = len(value)
    if not all([are_within(row, many, 0, LONGEST_WAY) for row in value]):
        return False
    places = range(many)
    return all([is_way(value, one, other) for one in places for other in places])


def is_way(table, one, other):
    """Whether from the one place to the other one it is as much as back, and 0 just for the place itself."""
    return table[one][other] == table[other][one] and (table[one][other] == 0) == (one == other)


def is_closed(value):
    """Whether any value is a closed way table."""
    if not is_way_table(value):
        return False
    places = range(len(value))
    return all([is_shortest(value, one, other) for one in places for other in places])


def is_shortest(table, one, other):
    """Whether from the one place to the other one it is never more than over a third one."""
    return all([table[one][other] <= table[one][over] + table[over][other] for over in range(len(table))])


def closed(table):
    """The closed way table that comes of a way table."""
    if not is_way_table(table):
        raise InvalidTable(table)
    places = range(len(table))
    rows = [[int(number) for number in row] for row in table]
    # Behind each round all sums along rows of places with only these places between are looked at.
    for over in places:
        for one in places:
            for other in places:
                rows[one][other] = min(rows[one][other], rows[one][over] + rows[over][other])
    return tuple([tuple(row) for row in rows])


def is_stop(city, value):
    """Whether any value is a stop of the city."""
    return is_within(value, 0, len(city[1]) - 1)


def check_stops(city, one, other):
    """Raise the error of the first one that is not as the interface wants it."""
    check_city(city)
    for stop in (one, other):
        if not is_stop(city, stop):
            raise InvalidStop(stop)


def change_of(city, one, other):
    """The change from the one stop to the other one, of which all is known to be right."""
    if one == other:
        return int(city[2][one])
    return walk_of(city, one, other)


def walk_of(city, one, other):
    """The walk, likewise."""
    return int(city[3][one][other])


def drive_of(city, one, other):
    """The drive, likewise."""
    return int(city[4][one][other])


def change_between(city, one, other):
    """The change from the one stop to the other one."""
    check_stops(city, one, other)
    return change_of(city, one, other)


def walk_between(city, one, other):
    """The walk from the one stop to the other one."""
    check_stops(city, one, other)
    return walk_of(city, one, other)


def drive_between(city, one, other):
    """The drive from the one stop to the other one."""
    check_stops(city, one, other)
    return drive_of(city, one, other)
