"""Riders: where they are in a course, by when they are surely there, and papers of that."""

from citylines.basics import is_list, is_tuple, is_within, plain
from citylines.charts import chart_of
from citylines.days import chart_for, is_course_of
from citylines.errors import InvalidMinute, InvalidWay
from citylines.fields import is_standing_at
from citylines.layers import do_close, layers_from, lesser
from citylines.plans import check_plan
from citylines.routes import does_board, is_place, is_way_of, led, parts_of, place_behind
from citylines.steps import first_of, steps_from, walked

LAST_ARRIVAL = 9999999


class Rider:
    """A rider of a plan, with the parts of the way, and the first place."""

    def __init__(self, chart, way):
        stop, minute, route = plain(way)
        self.chart = chart
        self.parts = parts_of(chart.plan, stop, route, 0)
        self.first = led(self.parts, 0, minute, False)


def is_way(plan, value):
    """Whether any value is a way of the plan."""
    check_plan(plan)
    return is_way_of(plan, value)


def check_way(plan, way):
    """Raise InvalidWay unless it is a way of what is known to be a plan."""
    if not is_way_of(plan, way):
        raise InvalidWay(way)


def rider_of(plan, way):
    """The rider who goes this way: InvalidPlan, InvalidWay."""
    check_plan(plan)
    check_way(plan, way)
    return Rider(chart_of(plan), way)


def rider_in(plan, course, way):
    """The rider who goes this way in a course: InvalidPlan, InvalidCourse, InvalidWay."""
    chart = chart_for(plan, course)
    check_way(plan, way)
    return Rider(chart, way)


def places_of(rider, course):
    """The list of the rider's places ahead of each ride, and behind the last one."""
    found = [rider.first]
    for at, step in enumerate(walked(rider.chart, course)):
        found.append(place_behind(rider.chart.sheet, rider.parts, found[at], at, step[1]))
    return found


def arrival_at(place):
    """The arrival of a rider who is at the place behind all rides, None if stranded."""
    return place[1] if place[0] == "there" else None


def arrival(plan, course, way):
    """The rider's arrival, None if the rider is stranded."""
    return arrival_at(places_of(rider_in(plan, course, way), course)[-1])


def places(plan, course, way):
    """The list of the places ahead of each ride, and behind the last one."""
    return places_of(rider_in(plan, course, way), course)


def ridden(plan, course, way):
    """The list of the tuples (trip, boarding hop, alighting hop) of the trips taken, None if the rider is stranded."""
    rider = rider_in(plan, course, way)
    sheet = rider.chart.sheet
    place = rider.first
    found = []
    for at, step in enumerate(walked(rider.chart, course)):
        departure = step[1][0]
        if place[0] == "at" and departure is not None and does_board(sheet, rider.parts, place, at, departure):
            found.append((sheet.sequence[at][0],) + rider.parts[place[2]][2:4])
        place = place_behind(sheet, rider.parts, place, at, step[1])
    return found if place[0] == "there" else None


def rider_layers(rider):
    """The layers of the reached rows (standing, place)."""
    begin = ((first_of(rider.chart), rider.first), 0)
    return layers_from(
        rider.chart, 0, rider.chart.many, begin, lambda many, row, delays: rows_behind(rider, many, row, delays)
    )


def rows_behind(rider, many, row, delays):
    """What comes of a row (standing, place) by these delays."""
    standing, place = row
    steps = steps_from(rider.chart, many, standing, delays)
    return [(step[0], place_behind(rider.chart.sheet, rider.parts, place, many, step[1])) for step in steps]


def surely_by(plan, way):
    """The tuple of the greatest arrival, None if some course strands the rider, and its least course."""
    greatest, best = -1, None
    for row, (_, course) in rider_layers(rider_of(plan, way))[-1].items():
        own = arrival_at(row[1])
        if is_later(own, greatest):
            greatest, best = own, None
        if own == greatest:
            best = lesser(best, course)
    return (greatest, list(best))


def is_later(one, other):
    """Whether the one arrival is later than the other one; None is later than all others."""
    if one is None or other is None:
        return other is not None
    return one > other


def check_minute(minute):
    """Raise InvalidMinute unless it is a COUNT to 9,999,999."""
    if not is_within(minute, 0, LAST_ARRIVAL):
        raise InvalidMinute(minute)


def late_course(plan, way, minute):
    """The least course in which the rider is stranded, or there later than the minute; None if there is none."""
    rider = rider_of(plan, way)
    check_minute(minute)
    course = least_late(rider_layers(rider), minute)
    return None if course is None else list(course)


def least_late(layers, minute):
    """The least late course, a tuple, by the reached rows."""
    best = None
    for row, (_, course) in layers[-1].items():
        if is_later(arrival_at(row[1]), minute):
            best = lesser(best, course)
    return best


def is_late_course(plan, way, minute, value):
    """Whether any value is a late course of the way for the minute."""
    rider = rider_of(plan, way)
    check_minute(minute)
    if not is_course_of(rider.chart, value):
        return False
    return is_later(arrival_at(places_of(rider, value)[-1]), minute)


def sure_book(plan, way, minute):
    """The reached lists, a sure book of the way for the minute; None if there is a late course."""
    rider = rider_of(plan, way)
    check_minute(minute)
    layers = rider_layers(rider)
    if least_late(layers, minute) is not None:
        return None
    return [sorted([row + (layer[row][0],) for row in layer]) for layer in layers]


def is_sure_book(plan, way, minute, value):
    """Whether any value is a sure book of the way for the minute."""
    rider = rider_of(plan, way)
    check_minute(minute)
    size = rider.chart.many + 1
    if not is_list(value, size, size):
        return False
    if not all([is_sure_table(rider, many, table) for many, table in enumerate(value)]):
        return False
    layers = [{row[:2]: row[2] for row in table} for table in value]
    if layers[0].get((first_of(rider.chart), rider.first), None) != 0:
        return False
    if any([is_later(arrival_at(place), minute) for _, place in layers[-1]]):
        return False
    return do_close(rider.chart, layers, lambda many, row, delays: rows_behind(rider, many, row, delays))


def is_sure_table(rider, many, value):
    """Whether any value is a sorted list of rows with a rider there, no standing and place twice."""
    if not isinstance(value, (list, tuple)) or not all([is_sure_row(rider, many, row) for row in value]):
        return False
    return all([value[at][:2] < value[at + 1][:2] for at in range(len(value) - 1)])


def is_sure_row(rider, many, value):
    """Whether any value is a row with a rider there, its minutes at most the budget."""
    if not is_tuple(value, 3, 3) or not is_standing_at(rider.chart, many, value[0]):
        return False
    return is_place(rider.chart.plan, rider.parts, value[1]) and is_within(value[2], 0, rider.chart.budget)
