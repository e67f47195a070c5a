"""Blocks: one vehicle's trips, one behind another, perhaps with a battery."""

from citylines.basics import are_times, are_within, is_count, is_named, is_tuple, is_within
from citylines.cities import drive_of
from citylines.errors import InvalidArrival, InvalidBlock, InvalidDeparture, InvalidLevel, InvalidPlace
from citylines.errors import InvalidTimes, InvalidTrip
from citylines.trips import check_trips, MOST_TRIPS, stop_ahead, stop_behind

LONGEST_TURN = 60
MOST_FULL = 99
MOST_RATE = 9


def is_block(city, lines, trips, value):
    """Whether any value is a block of these trips, each of its trips once."""
    check_trips(city, lines, trips)
    return is_block_of(city, lines, trips, value)


def are_blocks(city, lines, trips, value):
    """Whether any value is a tuple of blocks, each trip in just one of them."""
    check_trips(city, lines, trips)
    return are_blocks_of(city, lines, trips, value)


def are_blocks_of(city, lines, trips, value):
    """Whether any value is a tuple of blocks of what are known to be trips, each trip in just one of them."""
    if not isinstance(value, tuple):
        return False
    if not all([is_block_of(city, lines, trips, block) for block in value]):
        return False
    return sorted([trip for block in value for trip in block[1]]) == list(range(len(trips)))


def is_block_of(city, lines, trips, value):
    """Whether any value is a block of what are known to be trips."""
    if not is_block_form(value):
        return False
    own = value[1]
    if max(own) >= len(trips):
        return False
    return all([can_turn(city, lines, trips, value, place) for place in range(1, len(own))])


def can_turn(city, lines, trips, block, place):
    """Whether the turn ahead of the place is no shorter than the drive, which a battery does not let at all."""
    _, own, turns, battery = block
    before = trips[own[place - 1]]
    ends = stop_behind(lines, before, len(before[2]) - 1)
    begins = stop_ahead(lines, trips[own[place]], 0)
    if battery is not None and ends != begins:
        return False
    return turns[place - 1] >= drive_of(city, ends, begins)


def is_block_form(value):
    """Whether any value is a tuple in the form of a block."""
    if not is_named(value, "block", 4):
        return False
    _, trips, turns, battery = value
    if not is_tuple(trips, 1, MOST_TRIPS) or not all([is_count(trip) for trip in trips]):
        return False
    many = len(trips)
    if len(set(trips)) != many or not are_within(turns, many - 1, 0, LONGEST_TURN):
        return False
    return battery is None or is_battery(battery, many)


def is_battery(value, many):
    """Whether any value is the battery of a block of so many trips."""
    if not is_tuple(value, 3, 3):
        return False
    full, needs, rate = value
    if not is_within(full, 1, MOST_FULL) or not is_within(rate, 1, MOST_RATE):
        return False
    return are_within(needs, many, 1, full)


def check_block(block):
    """Raise InvalidBlock unless it is in the form of a block."""
    if not is_block_form(block):
        raise InvalidBlock(block)


def check_standing(block, place, level):
    """Raise the error of the first one that is not as the interface wants it."""
    check_block(block)
    _, trips, _, battery = block
    if not is_within(place, 1, len(trips) - 1):
        raise InvalidPlace(place)
    if battery is None and level is not None:
        raise InvalidLevel(level)
    if battery is not None and not is_within(level, 0, battery[0]):
        raise InvalidLevel(level)


def check_arrived(block, place, level, arrival):
    """Raise the error of the first one that is not as the interface wants it."""
    check_standing(block, place, level)
    if not is_count(arrival):
        raise InvalidArrival(arrival)


def block_place(blocks, trip):
    """The tuple (position of the block, place) of a trip in the first block that has it, None without one."""
    if not is_count(trip):
        raise InvalidTrip(trip)
    for position, block in enumerate(blocks):
        for place, own in enumerate(block[1]):
            if own == trip:
                return (position, place)
    return None


def first_level(block):
    """The level behind the first departure, None without a battery."""
    check_block(block)
    battery = block[3]
    return None if battery is None else battery[0] - battery[1][0]


def lack(block, place, level):
    """The minutes that the level lacks ahead of the trip at the place."""
    check_standing(block, place, level)
    return lack_of(block, place, level)


def ready(block, place, level, arrival):
    """The minute at which the vehicle is ready for the trip at the place."""
    check_arrived(block, place, level, arrival)
    return ready_at(block, place, level, arrival)


def charged(block, place, level, arrival, departure):
    """The level behind this departure, None without a battery."""
    check_arrived(block, place, level, arrival)
    if not is_count(departure) or departure < ready_at(block, place, level, arrival):
        raise InvalidDeparture(departure)
    return level_behind(block, place, level, departure - arrival)


def levels(block, times):
    """The list of the levels behind all departures of the block's trips."""
    check_block(block)
    many = len(block[1])
    if not are_times(times, many):
        raise InvalidTimes(times)
    found = [first_level(block)]
    for place in range(1, many):
        level, arrival, departure = found[-1], times[place - 1][1], times[place][0]
        if departure < ready_at(block, place, level, arrival):
            raise InvalidTimes(times)
        found.append(level_behind(block, place, level, departure - arrival))
    return found


def lack_of(block, place, level):
    """The lack, of what is known to be right."""
    battery = block[3]
    if battery is None:
        return 0
    _, needs, rate = battery
    # Rounded up: a minute that is begun has to be stood out.
    return max(0, (needs[place] - level + rate - 1) // rate)


def ready_at(block, place, level, arrival):
    """The minute at which the vehicle is ready, of what is known to be right."""
    return arrival + max(block[2][place - 1], lack_of(block, place, level))


def level_behind(block, place, level, minutes):
    """The level behind the departure, so many minutes having been charged from the level ahead on."""
    battery = block[3]
    if battery is None:
        return None
    full, needs, rate = battery
    return min(full, level + rate * minutes) - needs[place]
