"""Trips of lines, and how they are told."""

from citylines.basics import are_within, is_minute, is_named, is_tuple, is_within, LAST_MINUTE
from citylines.errors import InvalidEvery, InvalidHop, InvalidLine, InvalidMany, InvalidMinute, InvalidTrip
from citylines.errors import InvalidTrips, TooMany
from citylines.lines import check_lines

MOST_TRIPS = 16
LONGEST_EVERY = 240


def are_trips(city, lines, value):
    """Whether any value is trips of the lines."""
    check_lines(city, lines)
    return are_trips_of(lines, value)


def check_trips(city, lines, trips):
    """Raise the error of the first one that is not as the interface wants it."""
    if not are_trips(city, lines, trips):
        raise InvalidTrips(trips)


def are_trips_of(lines, value):
    """Whether any value is trips of what are known to be lines."""
    if not is_tuple(value, 1, MOST_TRIPS):
        return False
    if not all([is_trip_of(lines, trip) for trip in value]):
        return False
    return all([keeps_apart(lines, value, at) for at in range(len(value))])


def is_trip_of(lines, value):
    """Whether any value is a trip, alone, of what are known to be lines."""
    if not is_named(value, "trip", 3):
        return False
    _, line, told = value
    if not is_within(line, 0, len(lines) - 1):
        return False
    if not are_within(told, len(lines[line][2]), 0, LAST_MINUTE):
        return False
    return all([slack >= 0 for slack in slacks(lines, value)])


def keeps_apart(lines, trips, at):
    """Whether the trip there is, at each hop, told to leave far enough behind the one ahead of it on the line."""
    ahead = position_ahead(trips, at)
    if ahead is None:
        return True
    _, line, told = trips[at]
    apart = lines[line][4]
    return all([told[hop] - trips[ahead][2][hop] >= apart for hop in range(len(told))])


def position_ahead(trips, at):
    """The position of the trip ahead on the line of the trip there, None if there is none."""
    ahead = [other for other in range(at) if trips[other][1] == trips[at][1]]
    return ahead[-1] if ahead else None


def sequence_of(trips):
    """The list of all rides, tuples (trip, hop), in the sequence."""
    told = [(minute, trip, hop) for trip, own in enumerate(trips) for hop, minute in enumerate(own[2])]
    return [(trip, hop) for _, trip, hop in sorted(told)]


def is_ride(trips, trip, hop):
    """Whether any two values are the position of one of the trips, and a hop of it."""
    return is_within(trip, 0, len(trips) - 1) and is_hop(trips[trip], hop)


def is_hop(trip, value):
    """Whether any value is a hop of the trip."""
    return is_within(value, 0, len(trip[2]) - 1)


def stop_ahead(lines, trip, hop):
    """The stop where a hop of a trip begins."""
    return lines[trip[1]][1][hop]


def stop_behind(lines, trip, hop):
    """The stop where a hop of a trip ends."""
    return lines[trip[1]][1][hop + 1]


def told_departure(trip, hop):
    """The MINUTE at which the trip is told to leave ahead of the hop."""
    if not is_hop(trip, hop):
        raise InvalidHop(hop)
    return int(trip[2][hop])


def told_arrival(lines, trip, hop):
    """The minute at which the trip is told to come behind the hop."""
    return told_departure(trip, hop) + lines[trip[1]][2][hop]


def slacks(lines, trip):
    """The list of the trip's slacks, for each hop but the first."""
    _, line, told = trip
    _, _, leasts, stands, _ = lines[line]
    return [told[hop + 1] - told[hop] - leasts[hop] - stands[hop] for hop in range(len(stands))]


def trip_ahead(trips, trip):
    """The position of the trip ahead on the line of the trip at this position, None if there is none."""
    if not is_within(trip, 0, len(trips) - 1):
        raise InvalidTrip(trip)
    return position_ahead(trips, trip)


def beat(city, lines, line, first, every, many):
    """The tuple of so many trips of the line, without slack, each next one so many minutes behind."""
    check_lines(city, lines)
    if not is_within(line, 0, len(lines) - 1):
        raise InvalidLine(line)
    if not is_minute(first):
        raise InvalidMinute(first)
    if not is_within(every, lines[line][4], LONGEST_EVERY):
        raise InvalidEvery(every)
    if not is_within(many, 1, MOST_TRIPS):
        raise InvalidMany(many)
    told = told_without_slack(lines[line], first)
    # No minute is told later than the last trip's last one.
    if told[-1] + every * (many - 1) > LAST_MINUTE:
        raise TooMany("minutes", LAST_MINUTE)
    return tuple([("trip", int(line), tuple([minute + every * at for minute in told])) for at in range(many)])


def told_without_slack(line, first):
    """The minutes at which a trip of the line without slack leaves that leaves its first stop at this one."""
    _, _, leasts, stands, _ = line
    told = [first]
    for hop in range(len(stands)):
        told.append(told[hop] + leasts[hop] + stands[hop])
    return told


def joined_trips(city, lines, trips, other):
    """The tuple of all trips of both, None if these are no trips."""
    check_trips(city, lines, trips)
    check_trips(city, lines, other)
    if len(trips) + len(other) > MOST_TRIPS:
        raise TooMany("trips", MOST_TRIPS)
    # As tuples they stand by lines, those of a line by first told departures.
    joined = tuple(sorted([plain_trip(trip) for trip in [*trips, *other]]))
    return joined if are_trips_of(lines, joined) else None


def plain_trip(trip):
    """The trip in plain values."""
    _, line, told = trip
    return ("trip", int(line), tuple([int(minute) for minute in told]))
