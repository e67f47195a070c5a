"""Routes: the parts of a rider's way, and the places to which they lead."""

from citylines.basics import is_count, is_minute, is_named, is_tuple, is_within
from citylines.cities import change_of, is_stop, walk_of

MOST_PARTS = 30
DEEPEST = 12


def is_way_of(plan, value):
    """Whether any value is a way of what is known to be a plan."""
    if not is_tuple(value, 3, 3):
        return False
    stop, minute, route = value
    return is_stop(plan[1], stop) and is_minute(minute) and parts_left(plan, stop, route, DEEPEST, MOST_PARTS) >= 0


def parts_left(plan, stop, value, deep, left):
    """Of so many parts that are let how many are left behind any value as a route from the stop; below 0 if it is none.

    Parts are not counted further than they are let, as one route may stand in another one many times.
    """
    if deep == 0 or left == 0:
        return -1
    if is_named(value, "there", 1):
        return left - 1
    if is_named(value, "walk", 3) and is_other_stop(plan, stop, value[1]):
        return parts_left(plan, value[1], value[2], deep - 1, left - 1)
    if is_named(value, "ride", 4) and is_ridden(plan, value[1], stop, value[2]):
        return parts_left(plan, value[2], value[3], deep - 1, left - 1)
    if not is_named(value, "by", 4) or not is_minute(value[1]):
        return -1
    behind = parts_left(plan, stop, value[2], deep - 1, left - 1)
    return behind if behind < 0 else parts_left(plan, stop, value[3], deep - 1, behind)


def is_other_stop(plan, stop, value):
    """Whether any value is another stop of the plan's city."""
    return is_stop(plan[1], value) and value != stop


def is_ridden(plan, line, stop, value):
    """Whether any two values are the position of a line, and another stop, to which it goes from the stop."""
    if not is_within(line, 0, len(plan[2]) - 1) or not is_other_stop(plan, stop, value):
        return False
    return len(boarding_hops(plan[2][line], stop, value)) > 0


def boarding_hops(line, stop, other):
    """The hops of the line that begin at the stop, and behind which it comes to the other one."""
    stops = line[1]
    return [hop for hop in range(len(line[2])) if stops[hop] == stop and other in stops[hop + 1:]]


def alighting_hop(line, first, other):
    """The first hop of the line, from this one on, that ends at the other stop."""
    return line[1].index(other, first + 1) - 1


def parts_of(plan, stop, route, number):
    """The list of the parts of a route from the stop, of which the first one has this number.

    They are ("there",), ("walk", minutes, next), ("ride", line, boarding hop, alighting hop, change, next) and
    ("by", minute, next, next), where next is the number of the part behind it.
    """
    word, ahead = route[0], number + 1
    if word == "there":
        return [("there",)]
    if word == "walk":
        walk = walk_of(plan[1], stop, route[1])
        return [(word, walk, ahead)] + parts_of(plan, route[1], route[2], ahead)
    if word == "ride":
        line = plan[2][route[1]]
        first = boarding_hops(line, stop, route[2])[0]
        last = alighting_hop(line, first, route[2])
        change = change_of(plan[1], stop, stop)
        return [(word, route[1], first, last, change, ahead)] + parts_of(plan, route[2], route[3], ahead)
    early = parts_of(plan, stop, route[2], ahead)
    late = ahead + len(early)
    return [(word, route[1], ahead, late)] + early + parts_of(plan, stop, route[3], late)


def led(parts, number, minute, has_ridden):
    """The place to which the parts lead from this one on: up to a ride, or there."""
    at, now, changes = number, minute, has_ridden
    while parts[at][0] in ("walk", "by"):
        part = parts[at]
        if part[0] == "walk":
            now += part[1]
            changes = False
            at = part[2]
        else:
            at = part[2] if now <= part[1] else part[3]
    if parts[at][0] == "there":
        return ("there", now)
    return ("at", now + parts[at][4] if changes else now, at)


def does_board(sheet, parts, place, at, departure):
    """Whether a rider who waits at the place gets on by the ride at this position, which leaves then."""
    trip, hop = sheet.sequence[at]
    _, minute, number = place
    _, line, first, last, _, _ = parts[number]
    if sheet.plan[3][trip][1] != line or hop != first or last >= sheet.hops[trip]:
        return False
    return departure >= minute


def place_behind(sheet, parts, place, at, times):
    """The place behind the ride at this position, with its departure and arrival."""
    departure, arrival = times
    if place[0] == "there" or departure is None:
        return place
    trip, hop = sheet.sequence[at]
    number = place[2]
    if place[0] == "at" and not does_board(sheet, parts, place, at, departure):
        return place
    if place[0] == "in" and place[1] != trip:
        return place
    if hop != parts[number][3]:
        return ("in", trip, number)
    return led(parts, parts[number][5], arrival, True)


def is_place(plan, parts, value):
    """Whether any value is a place of a rider who goes by these parts."""
    if is_named(value, "there", 2):
        return is_count(value[1])
    if not is_tuple(value, 3, 3) or not is_within(value[2], 0, len(parts) - 1) or parts[value[2]][0] != "ride":
        return False
    if is_named(value, "at", 3):
        return is_count(value[1])
    if not is_named(value, "in", 3) or not is_within(value[1], 0, len(plan[3]) - 1):
        return False
    return plan[3][value[1]][1] == parts[value[2]][1]
