"""Duties: one driver's pieces of trips, with walks and rests between them."""

from citylines.basics import are_times, is_count, is_named, is_tuple, is_within, is_word
from citylines.cities import walk_of
from citylines.errors import InvalidArrival, InvalidDuty, InvalidHop, InvalidPlace, InvalidTimes, InvalidTrip
from citylines.trips import check_trips, is_ride, stop_ahead, stop_behind

MOST_PIECES = 60
LAST_HOP = 6
LONGEST_BREAK = 120


def is_duty(city, lines, trips, value):
    """Whether any value is a duty of these trips, no ride in two of its pieces."""
    check_trips(city, lines, trips)
    return is_duty_of(city, lines, trips, value)


def are_duties(city, lines, trips, value):
    """Whether any value is a tuple of duties, each ride of the trips in just one piece of all of them."""
    check_trips(city, lines, trips)
    return are_duties_of(city, lines, trips, value)


def are_duties_of(city, lines, trips, value):
    """Whether any value is a tuple of duties of what are known to be trips, each ride in just one piece of all."""
    if not isinstance(value, tuple):
        return False
    if not all([is_duty_of(city, lines, trips, duty) for duty in value]):
        return False
    driven = [ride for duty in value for ride in rides_of(duty)]
    return sorted(driven) == [(trip, hop) for trip in range(len(trips)) for hop in range(len(trips[trip][2]))]


def is_duty_of(city, lines, trips, value):
    """Whether any value is a duty of what are known to be trips."""
    if not is_duty_form(value):
        return False
    pieces = value[1]
    if not all([is_ride(trips, trip, last) for trip, _, last in pieces]):
        return False
    if not all([can_walk(city, lines, trips, value, place) for place in range(1, len(pieces))]):
        return False
    rides = rides_of(value)
    return len(set(rides)) == len(rides)


def can_walk(city, lines, trips, duty, place):
    """Whether the break ahead of the place is no shorter than the walk."""
    _, pieces, breaks = duty
    before, _, last = pieces[place - 1]
    behind, first, _ = pieces[place]
    ends = stop_behind(lines, trips[before], last)
    begins = stop_ahead(lines, trips[behind], first)
    return breaks[place - 1][1] >= walk_of(city, ends, begins)


def is_duty_form(value):
    """Whether any value is a tuple in the form of a duty."""
    if not is_named(value, "duty", 3):
        return False
    _, pieces, breaks = value
    if not is_tuple(pieces, 1, MOST_PIECES) or not all([is_piece(piece) for piece in pieces]):
        return False
    between = len(pieces) - 1
    if not all([pieces[place][0] != pieces[place + 1][0] for place in range(between)]):
        return False
    return is_tuple(breaks, between, between) and all([is_break(part) for part in breaks])


def is_piece(value):
    """Whether any value is a piece in the form of a duty."""
    if not is_tuple(value, 3, 3):
        return False
    trip, first, last = value
    return is_count(trip) and is_count(first) and is_within(last, 0, LAST_HOP) and first <= last


def is_break(value):
    """Whether any value is a break in the form of a duty."""
    if not is_tuple(value, 2, 2):
        return False
    word, minutes = value
    if not is_word(word, ("walk", "rest")):
        return False
    return is_within(minutes, 1 if word == "rest" else 0, LONGEST_BREAK)


def check_duty(duty):
    """Raise InvalidDuty unless it is in the form of a duty."""
    if not is_duty_form(duty):
        raise InvalidDuty(duty)


def duty_place(duties, trip, hop):
    """The tuple (position of the duty, place) of the first piece with the ride in the first duty, None without one."""
    if not is_count(trip):
        raise InvalidTrip(trip)
    if not is_count(hop):
        raise InvalidHop(hop)
    for position, duty in enumerate(duties):
        for place, piece in enumerate(duty[1]):
            own, first, last = piece
            if own == trip and first <= hop <= last:
                return (position, place)
    return None


def duty_rides(duty):
    """The list of the tuples (trip, hop) of all its rides, piece by piece."""
    check_duty(duty)
    return rides_of(duty)


def rides_of(duty):
    """The rides of what is known to be in the form of a duty."""
    return [(int(trip), hop) for trip, first, last in duty[1] for hop in range(first, last + 1)]


def there(duty, place, arrival):
    """The minute from which the driver is there for the piece at the place."""
    check_duty(duty)
    if not is_within(place, 1, len(duty[1]) - 1):
        raise InvalidPlace(place)
    if not is_count(arrival):
        raise InvalidArrival(arrival)
    return there_at(duty, place, arrival)


def there_at(duty, place, arrival):
    """The minute from which the driver is there, of what is known to be right."""
    return arrival + duty[2][place - 1][1]


def stretches(duty):
    """The list of the tuples (place of the first piece, place of the last piece) of its stretches."""
    check_duty(duty)
    begins = stretch_begins(duty)
    lasts = [begin - 1 for begin in begins[1:]] + [len(duty[1]) - 1]
    return list(zip(begins, lasts))


def stretch_begins(duty):
    """The places of the pieces with which a stretch begins."""
    return [0] + [place + 1 for place, part in enumerate(duty[2]) if part[0] == "rest"]


def spans(duty, times):
    """The list of the tuples (driven, long) at the ends of all pieces."""
    check_duty(duty)
    if not are_times(times, len(duty[1])) or not is_driven_in_time(duty, times):
        raise InvalidTimes(times)
    found = []
    for begin, last in stretches(duty):
        for place in range(begin, last + 1):
            arrival = times[place][1]
            found.append((arrival - times[begin][0], arrival - times[0][0]))
    return found


def is_driven_in_time(duty, times):
    """Whether each departure behind the first place is at least when the driver is there."""
    return all([times[place][0] >= there_at(duty, place, times[place - 1][1]) for place in range(1, len(times))])
