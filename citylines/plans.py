"""Plans: whether a value is a sound one, and plans made of others."""

from citylines.basics import is_named, is_within, is_word, plain
from citylines.blocks import are_blocks_of, level_behind, ready_at
from citylines.cities import is_city, LONGEST_WAY, MOST_STOPS
from citylines.duties import are_duties_of, stretch_begins, there_at
from citylines.errors import InvalidMany, InvalidPlan, InvalidRide, InvalidWord, TooMany, UnlikeBudgets, UnsoundPlan
from citylines.errors import WithHeard, WithSpares
from citylines.lines import are_lines_of, MOST_LINES
from citylines.marks import are_remedies_of
from citylines.meets import are_meets_of, MOST_MEETS
from citylines.promises import are_delays_of, are_promises_of, are_spares, is_heard_of, MOST_BUDGET, MOST_PROMISES
from citylines.trips import are_trips_of, is_ride, MOST_TRIPS, sequence_of, told_arrival

MOST_RIDES = 60
PARTS = (
    "city", "lines", "trips", "blocks", "duties", "meets", "promises", "delays", "spares", "heard", "remedies",
)


def is_plan(value):
    """Whether any value is a sound plan."""
    return unsound(value) is None


def check_plan(plan):
    """Raise InvalidPlan unless it is a sound plan."""
    if not is_plan(plan):
        raise InvalidPlan(plan)


def unsound(value):
    """None of a sound plan; of any other value the word of its first part that is not as it must be."""
    if not is_named(value, "plan", 12):
        return "form"
    _, city, lines, trips, blocks, duties, meets, _, delays, spares, heard, remedies = value
    if not is_city(city):
        return "city"
    if not are_lines_of(city, lines):
        return "lines"
    if not are_trips_of(lines, trips) or len(sequence_of(trips)) > MOST_RIDES:
        return "trips"
    if not are_blocks_of(city, lines, trips, blocks):
        return "blocks"
    if not are_duties_of(city, lines, trips, duties):
        return "duties"
    if not are_meets_of(city, lines, trips, meets):
        return "meets"
    if not are_promises_of(value, value[7]):
        return "promises"
    if not are_delays_of(trips, delays):
        return "delays"
    if not are_spares(spares):
        return "spares"
    if not is_heard_of(trips, delays, heard):
        return "heard"
    if not are_remedies_of(value, remedies):
        return "remedies"
    return unsound_day(value)


def unsound_day(plan):
    """The word by which the told day of a plan of the right form is unsound, None if it is sound."""
    if not all([is_vehicle_in_time(plan, block) for block in plan[4]]):
        return "told"
    if not all([is_driver_in_time(plan, duty) for duty in plan[5]]):
        return "told"
    # On a told day nobody waits, so nothing but spans can break.
    spans = [promise for promise in plan[7] if promise[0] in ("driven", "long")]
    return None if all([is_span_kept(plan, promise) for promise in spans]) else "kept"


def told_end(plan, trip):
    """The told end of the trip at this position."""
    return told_arrival(plan[2], plan[3][trip], len(plan[3][trip][2]) - 1)


def is_vehicle_in_time(plan, block):
    """Whether the vehicle is, by what is told, ready for each of the block's trips when that is told to leave."""
    _, own, _, battery = block
    level = None if battery is None else battery[0] - battery[1][0]
    for place in range(1, len(own)):
        arrival = told_end(plan, own[place - 1])
        departure = plan[3][own[place]][2][0]
        if ready_at(block, place, level, arrival) > departure:
            return False
        level = level_behind(block, place, level, departure - arrival)
    return True


def is_driver_in_time(plan, duty):
    """Whether the driver is, by what is told, there for each of the duty's pieces when its ride is told to leave."""
    pieces = duty[1]
    for place in range(1, len(pieces)):
        before, _, last = pieces[place - 1]
        trip, first, _ = pieces[place]
        if there_at(duty, place, told_arrival(plan[2], plan[3][before], last)) > plan[3][trip][2][first]:
            return False
    return True


def is_span_kept(plan, promise):
    """Whether the promise "driven" or "long" is kept by what is told."""
    word, duty, most = promise
    pieces = plan[5][duty][1]
    begins = stretch_begins(plan[5][duty]) if word == "driven" else [0]
    for place, (trip, _, last) in enumerate(pieces):
        own, first, _ = pieces[max([begin for begin in begins if begin <= place])]
        if told_arrival(plan[2], plan[3][trip], last) - plan[3][own][2][first] > most:
            return False
    return True


def rides(plan):
    """The list of the rides, tuples (trip, hop), in the sequence."""
    check_plan(plan)
    return sequence_of(plan[3])


def ride_at(plan, trip, hop):
    """The position of a ride in the sequence."""
    check_plan(plan)
    if not is_ride(plan[3], trip, hop):
        raise InvalidRide((trip, hop))
    return sequence_of(plan[3]).index((trip, hop))


def check_ride(plan, ride):
    """Raise InvalidRide unless it is the position of a ride of what is known to be a plan."""
    if not is_within(ride, 0, len(sequence_of(plan[3])) - 1):
        raise InvalidRide(ride)


def with_budget(plan, many):
    """The plan with this budget."""
    check_plan(plan)
    if not is_within(many, sum(plan[10]), MOST_BUDGET):
        raise InvalidMany(many)
    return plain(plan[:8] + ((plan[8][0], many),) + plan[9:])


def with_part(plan, word, value):
    """The plan with any value in the place of the part."""
    check_plan(plan)
    if not is_word(word, PARTS):
        raise InvalidWord(word)
    at = PARTS.index(word) + 1
    changed = plan[:at] + (value,) + plan[at + 1:]
    wrong = unsound(changed)
    if wrong is not None:
        raise UnsoundPlan(wrong)
    return plain(changed)


def beside(plan, other):
    """Both plans as one, the second one's parts numbered on behind the first one's."""
    check_plan(plan)
    check_plan(other)
    check_beside(plan, other)
    _, city, lines, trips, blocks, duties, meets, promises, delays, _, _, _ = plan
    _, behind, others, rows, vehicles, drivers, feeders, told, late, _, _, _ = other
    stop, line, trip, duty, meet = len(city[1]), len(lines), len(trips), len(duties), len(meets)
    return plain((
        "plan", city_beside(city, behind), lines + tuple([line_behind(row, stop) for row in others]),
        trips + tuple([("trip", row[1] + line, row[2]) for row in rows]),
        blocks + tuple([block_behind(row, trip) for row in vehicles]),
        duties + tuple([duty_behind(row, trip) for row in drivers]),
        meets + tuple([meet_behind(row, trip) for row in feeders]),
        promises + tuple([promise_behind(row, trip, duty, meet) for row in told]),
        (delays[0] + late[0], delays[1]), None, (), (),
    ))


def check_beside(plan, other):
    """Raise the error by which two plans cannot be one."""
    if plan[8][1] != other[8][1]:
        raise UnlikeBudgets()
    if plan[9] is not None or other[9] is not None:
        raise WithSpares()
    if plan[10] or plan[11] or other[10] or other[11]:
        raise WithHeard()
    limits = (
        ("stops", MOST_STOPS, len(plan[1][1]) + len(other[1][1])), ("lines", MOST_LINES, len(plan[2]) + len(other[2])),
        ("trips", MOST_TRIPS, len(plan[3]) + len(other[3])),
        ("rides", MOST_RIDES, len(sequence_of(plan[3])) + len(sequence_of(other[3]))),
        ("meets", MOST_MEETS, len(plan[6]) + len(other[6])),
        ("promises", MOST_PROMISES, len(plan[7]) + len(other[7])),
    )
    for what, limit, many in limits:
        if many > limit:
            raise TooMany(what, limit)


def city_beside(city, other):
    """Both cities as one, as far apart as may be."""
    _, zones, changes, walks, drives = city
    _, more, longer, paths, roads = other
    return ("city", zones + more, changes + longer, table_beside(walks, paths), table_beside(drives, roads))


def table_beside(table, other):
    """Both way tables as one."""
    one, two = len(table), len(other)
    return tuple([row + (LONGEST_WAY,) * two for row in table] + [(LONGEST_WAY,) * one + row for row in other])


def line_behind(line, stop):
    """The line with its stops numbered on from this one."""
    _, stops, leasts, stands, apart = line
    return ("line", tuple([own + stop for own in stops]), leasts, stands, apart)


def block_behind(block, trip):
    """The block with its trips numbered on from this one."""
    _, trips, turns, battery = block
    return ("block", tuple([own + trip for own in trips]), turns, battery)


def duty_behind(duty, trip):
    """The duty with its trips numbered on from this one."""
    _, pieces, breaks = duty
    return ("duty", tuple([(own + trip, first, last) for own, first, last in pieces]), breaks)


def meet_behind(meet, trip):
    """The meet with its trips numbered on from this one."""
    _, feeder, behind, taker, ahead, wait, way = meet
    return ("meet", feeder + trip, behind, taker + trip, ahead, wait, way)


def promise_behind(promise, trip, duty, meet):
    """The promise with trips, duties and meets numbered on from these."""
    word = promise[0]
    if word == "meets":
        return (word, promise[1] + meet)
    if word in ("driven", "long"):
        return (word, promise[1] + duty, promise[2])
    return (word, promise[1] + trip) + promise[2:]
