"""Spares: with how many of them all holds; and with how few vehicles trips can be run, and why with no fewer."""

from citylines.basics import is_list, is_within
from citylines.blocks import LONGEST_TURN
from citylines.charts import chart_of
from citylines.cities import drive_of
from citylines.courses import least_course_of
from citylines.errors import InvalidTrip, InvalidTurn, NoSpares
from citylines.plans import check_plan
from citylines.promises import MOST_SPARES
from citylines.trips import check_trips, stop_ahead, stop_behind, told_arrival


def spares_that_keep(plan):
    """The list that has for each number of spares None if no promise is fallen with it, else the least course."""
    check_plan(plan)
    if plan[9] is None:
        raise NoSpares()
    _, late, access = plan[9]
    plans = [plan[:9] + ((number, late, access),) + plan[10:] for number in range(MOST_SPARES + 1)]
    return [least_course_of(chart_of(own)) for own in plans]


def check_turn(city, lines, trips, turn):
    """Raise the error of the first one that is not as the interface wants it."""
    check_trips(city, lines, trips)
    if not is_within(turn, 0, LONGEST_TURN):
        raise InvalidTurn(turn)


def leads(city, lines, trips, turn, one, other):
    """Whether the one trip leads to the other one."""
    check_turn(city, lines, trips, turn)
    for trip in (one, other):
        if not is_within(trip, 0, len(trips) - 1):
            raise InvalidTrip(trip)
    return does_lead(city, lines, turn, trips[one], trips[other])


def does_lead(city, lines, turn, trip, other):
    """Whether the trip leads to the other one, of what is known to be right."""
    last = len(trip[2]) - 1
    drive = drive_of(city, stop_behind(lines, trip, last), stop_ahead(lines, other, 0))
    return told_arrival(lines, trip, last) + turn + drive <= other[2][0]


def led_by(city, lines, trips, turn):
    """For each trip the list of the positions of the trips to which it leads."""
    places = range(len(trips))
    return [[at for at in places if does_lead(city, lines, turn, trip, trips[at])] for trip in trips]


def fewest_blocks(city, lines, trips, turn):
    """The tuple (chains, apart): chains, and trips apart that are just as many."""
    check_turn(city, lines, trips, turn)
    led = led_by(city, lines, trips, turn)
    ahead = {}
    for one in range(len(trips)):
        pair_up(led, ahead, one, {})
    behind = {ahead[other]: other for other in ahead}
    firsts = [one for one in range(len(trips)) if one not in ahead]
    return ([chain_from(behind, one) for one in firsts], trips_apart(led, ahead, behind))


def pair_up(led, ahead, one, tried):
    """Whether the trip can be paired with one behind it, with no pair fewer; ahead tells who leads to whom then."""
    for other in led[one]:
        if other not in tried:
            tried[other] = True
            if other not in ahead or pair_up(led, ahead, ahead[other], tried):
                ahead[other] = one
                return True
    return False


def chain_from(behind, first):
    """The chain that begins with this trip."""
    chain = [first]
    while chain[-1] in behind:
        chain.append(behind[chain[-1]])
    return chain


def trips_apart(led, ahead, behind):
    """The rising list of trips apart, as many as chains, where as many trips as can be are paired.

    They are come to as leading trips, and not as led ones, by going from those that lead none in their chain to
    whomever they could lead, and from there back to whoever does.
    """
    leading = {one: True for one in range(len(led)) if one not in behind}
    found = {}
    waiting = list(leading)
    while waiting:
        one = waiting.pop()
        for other in [own for own in led[one] if own not in found]:
            found[other] = True
            # Somebody does: else there would be one pair more.
            leading[ahead[other]] = True
            waiting.append(ahead[other])
    return [one for one in range(len(led)) if one in leading and one not in found]


def is_chains(city, lines, trips, turn, value):
    """Whether any value is chains of the trips."""
    check_turn(city, lines, trips, turn)
    if not is_list(value, 0, len(trips)) or not all([are_positions(trips, chain) for chain in value]):
        return False
    if sorted([at for chain in value for at in chain]) != list(range(len(trips))):
        return False
    pairs = [(chain[at], chain[at + 1]) for chain in value for at in range(len(chain) - 1)]
    return all([does_lead(city, lines, turn, trips[one], trips[other]) for one, other in pairs])


def are_positions(trips, value):
    """Whether any value is a list of positions of trips that is not empty."""
    return is_list(value, 1, len(trips)) and all([is_within(at, 0, len(trips) - 1) for at in value])


def is_apart(city, lines, trips, turn, value):
    """Whether any value is the rising list of the positions of trips that are apart."""
    check_turn(city, lines, trips, turn)
    if not is_list(value, 0, len(trips)) or not all([is_within(at, 0, len(trips) - 1) for at in value]):
        return False
    if not all([value[at] < value[at + 1] for at in range(len(value) - 1)]):
        return False
    return not any([does_lead(city, lines, turn, trips[one], trips[other]) for one in value for other in value])
