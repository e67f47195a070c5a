"""Staircases: when one must leave, as all is told, to come to a goal; and plans that are alike for riders."""

from citylines.basics import is_minute, is_same, is_tuple
from citylines.cities import is_stop
from citylines.errors import InvalidMinute, InvalidStop, UnlikeStops
from citylines.legs import arrivals_at, leave_for, Legs, route_by, stairs_from, walked_to
from citylines.plans import check_plan


def check_goal(plan, stop, goal):
    """Raise InvalidStop unless both are stops of the plan's city, and unlike."""
    if not is_stop(plan[1], stop):
        raise InvalidStop(stop)
    if not is_stop(plan[1], goal) or goal == stop:
        raise InvalidStop(goal)


def staircase(plan, stop, goal):
    """The staircase from the stop to the goal, a list of tuples (leave, arrive)."""
    check_plan(plan)
    check_goal(plan, stop, goal)
    return staircase_of(plan, stop, goal)


def staircase_of(plan, stop, goal):
    """The same, of what is known to be right."""
    table = Legs(plan)
    return stairs_from(table, stop, arrivals_at(table, goal)[-1])


def earliest(plan, stop, goal, minute):
    """The earliest arrival at the goal from the minute on, None if there is none."""
    check_plan(plan)
    check_goal(plan, stop, goal)
    check_minute(minute)
    return earliest_by(staircase_of(plan, stop, goal), minute)


def check_minute(minute):
    """Raise InvalidMinute unless it is a MINUTE."""
    if not is_minute(minute):
        raise InvalidMinute(minute)


def earliest_by(stairs, minute):
    """The earliest arrival by the staircase, None if there is none."""
    arrivals = [arrive for leave, arrive in stairs if leave >= minute]
    return arrivals[0] if arrivals else None


def quick_way(plan, stop, goal, minute):
    """A way without "by" whose arrival is the earliest one, None if there is none."""
    check_plan(plan)
    check_goal(plan, stop, goal)
    check_minute(minute)
    table = Legs(plan)
    rounds = arrivals_at(table, goal)
    begins = [at for at in range(len(table.legs)) if leave_for(table, stop, at) >= minute]
    if not begins:
        return None
    _, best = min([(rounds[-1][at], at) for at in begins])
    return (int(stop), int(minute), walked_to(int(stop), table.legs[best][0], route_by(table, int(goal), rounds, best)))


def staircases(plan):
    """The sorted list of the tuples (stop, goal, staircase) for all two unlike stops."""
    check_plan(plan)
    return all_staircases(plan)


def all_staircases(plan):
    """The same, of what is known to be a plan."""
    table = Legs(plan)
    stops = range(len(plan[1][1]))
    arrivals = [arrivals_at(table, goal)[-1] for goal in stops]
    pairs = [(stop, goal) for stop in stops for goal in stops if stop != goal]
    return [(stop, goal, stairs_from(table, stop, arrivals[goal])) for stop, goal in pairs]


def are_staircases(plan, value):
    """Whether any value is the list of all staircases of the plan."""
    check_plan(plan)
    return is_same(value, all_staircases(plan))


def both_staircases(plan, other):
    """The lists of all staircases of both plans: InvalidPlan, UnlikeStops."""
    check_plan(plan)
    check_plan(other)
    if len(plan[1][1]) != len(other[1][1]):
        raise UnlikeStops()
    return (all_staircases(plan), all_staircases(other))


def are_same_for_riders(plan, other):
    """Whether the plans are alike for riders."""
    one, two = both_staircases(plan, other)
    return one == two


def parting_rider(plan, other):
    """The least tuple (stop, goal, minute) for which the earliest arrivals are unlike, None if there is none."""
    one, two = both_staircases(plan, other)
    for (stop, goal, stairs), (_, _, others) in zip(one, two):
        if stairs != others:
            return (stop, goal, least_parting(stairs, others))
    return None


def least_parting(stairs, others):
    """The least minute from which on the earliest arrivals by two unlike staircases are unlike."""
    # An earliest arrival changes just behind a minute at which some stair leaves.
    minutes = [0] + [leave + 1 for leave, _ in stairs + others]
    return min([minute for minute in minutes if earliest_by(stairs, minute) != earliest_by(others, minute)])


def is_parting_rider(plan, other, value):
    """Whether any value is a parting rider of both plans."""
    one, two = both_staircases(plan, other)
    if not is_tuple(value, 3, 3):
        return False
    stop, goal, minute = value
    if not is_stop(plan[1], stop) or not is_stop(plan[1], goal) or stop == goal or not is_minute(minute):
        return False
    at = [row[:2] for row in one].index((stop, goal))
    return earliest_by(one[at][2], minute) != earliest_by(two[at][2], minute)
