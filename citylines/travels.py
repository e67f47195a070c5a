"""Travels of a plan: their passages and taps, whether they go, and which of them are free."""

from citylines.basics import is_list, is_tuple
from citylines.steps import walked
from citylines.tickets import MOST_PASSAGES
from citylines.trips import is_hop, is_ride, stop_ahead, stop_behind, told_arrival


class Going:
    """A course of a plan: departure and arrival of each ride, by trip and hop, and the meets that are missed."""

    def __init__(self, chart, course):
        steps = walked(chart, course)
        self.plan = chart.plan
        self.times = {ride: step[1] for ride, step in zip(chart.sheet.sequence, steps)}
        made = [meet for step in steps for meet in step[2]]
        asked = [meet for meet, wait in enumerate(chart.sheet.waits) if wait is not None]
        self.missed = [meet for meet in asked if meet not in made]


def is_travel_of(plan, value):
    """Whether any value is a travel of what is known to be a plan."""
    if not is_tuple(value, 3, 3):
        return False
    trip, first, last = value
    trips = plan[3]
    return is_ride(trips, trip, first) and is_hop(trips[trip], last) and first <= last


def are_travels_of(plan, value):
    """Whether any value is a list of at most 10 travels of what is known to be a plan."""
    return is_list(value, 0, MOST_PASSAGES) and all([is_travel_of(plan, travel) for travel in value])


def zones_of(plan, travel):
    """The zones of all stops of the travel, rising, each once."""
    trip, first, last = travel
    stops = plan[2][plan[3][trip][1]][1]
    return tuple(sorted({int(plan[1][1][stop]) for stop in stops[first:last + 2]}))


def told_of(plan, travel):
    """The told passage of the travel."""
    trip, first, last = travel
    own = plan[3][trip]
    return (int(own[2][first]), told_arrival(plan[2], own, last), zones_of(plan, travel))


def true_of(going, travel):
    """The true passage of the travel, None if one of its rides is not run."""
    trip, first, last = travel
    departure, arrival = going.times[(trip, first)][0], going.times[(trip, last)][1]
    # If the last one is run, so are those ahead of it.
    return None if arrival is None else (departure, arrival, zones_of(going.plan, travel))


def taps_of_travel(going, travel):
    """Both taps of a travel that has a true passage."""
    trip, first, last = travel
    lines, own = going.plan[2], going.plan[3][trip]
    departure, arrival, _ = true_of(going, travel)
    return [(departure, stop_ahead(lines, own, first), "in"), (arrival, stop_behind(lines, own, last), "out")]


def first_stuck(going, travels):
    """The place of the first travel without a true passage, or which departs too soon; None if all go."""
    since = 0
    for place, travel in enumerate(travels):
        passage = true_of(going, travel)
        if passage is None or passage[0] < since:
            return place
        since = passage[1]
    return None


def place_free(going, travels):
    """The place of the first free travel of those that go, None without one."""
    promised = [promise[1] for promise in going.plan[7] if promise[0] == "meets"]
    meets = [going.plan[6][meet] for meet in going.missed if meet in promised]
    for place in range(1, len(travels)):
        if any([is_left_by(going.plan, meet, travels[place - 1], travels[place]) for meet in meets]):
            return place
    return None


def is_left_by(plan, meet, ahead, travel):
    """Whether the travel is one behind the taker of the meet, of a rider who came by its feeder."""
    _, feeder, behind, taker, hop, _, _ = meet
    trip, first, _ = travel
    if (ahead[0], ahead[2]) != (feeder, behind) or first != hop:
        return False
    return plan[3][trip][1] == plan[3][taker][1] and trip > taker
