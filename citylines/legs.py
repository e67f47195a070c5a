"""Legs: what riders can ride as all is told, and by which legs they come to a goal soonest."""

from citylines.basics import plain
from citylines.cities import change_of, walk_of
from citylines.routes import alighting_hop, boarding_hops
from citylines.trips import told_arrival

MOST_RIDDEN = 4


class Legs:
    """The legs of a plan, tuples (stop, other stop, departure, arrival, line), and for each those it can lead to."""

    def __init__(self, plan):
        own = plain(plan)
        self.city = own[1]
        self.legs = legs_of(own)
        self.behind = [legs_behind(own[1], self.legs, leg) for leg in self.legs]


def legs_of(plan):
    """The list of the legs of a plan's trips."""
    lines, trips = plan[2], plan[3]
    found = []
    for trip in trips:
        for stop, other, first, last in hops_between(lines[trip[1]]):
            found.append((stop, other, trip[2][first], told_arrival(lines, trip, last), trip[1]))
    return found


def hops_between(line):
    """For each two unlike stops between which the line goes a tuple of them, the boarding and the alighting hop."""
    found = []
    for stop in sorted(set(line[1])):
        for other in sorted(set(line[1])):
            hops = boarding_hops(line, stop, other) if stop != other else []
            if hops:
                found.append((stop, other, hops[0], alighting_hop(line, hops[0], other)))
    return found


def legs_behind(city, legs, leg):
    """The list of the positions of the legs that a rider can take who comes by this one."""
    _, stop, _, arrival, _ = leg
    return [at for at, own in enumerate(legs) if arrival + change_of(city, stop, own[0]) <= own[2]]


def arrivals_at(table, goal):
    """For one, two, .. rides the list of the soonest arrivals at the goal of who begins with each of the legs."""
    alone = [leg[3] + walk_of(table.city, leg[1], goal) for leg in table.legs]
    rounds = [alone]
    for _ in range(MOST_RIDDEN - 1):
        soonest = rounds[-1]
        rounds.append([min([own] + [soonest[at] for at in after]) for own, after in zip(alone, table.behind)])
    return rounds


def leave_for(table, stop, at):
    """The last minute at which one can leave the stop for the leg there, below 0 if the walk is too far."""
    return table.legs[at][2] - walk_of(table.city, stop, table.legs[at][0])


def stairs_from(table, stop, arrivals):
    """The staircase from the stop, where these are the soonest arrivals at the goal by each of the legs."""
    stairs = [(leave_for(table, stop, at), arrive) for at, arrive in enumerate(arrivals)]
    found = []
    # Who leaves last comes first here; whoever leaves sooner must come sooner than all of these.
    for back, arrive in sorted([(-leave, arrive) for leave, arrive in stairs if leave >= 0]):
        if not found or arrive < found[-1][1]:
            found.append((-back, arrive))
    return found[::-1]


def route_by(table, goal, rounds, at):
    """The route from where the leg there begins: by it, and on as the arrivals of the last round tell, to the goal."""
    stop, other, _, _, line = table.legs[at]
    return ("ride", line, other, route_behind(table, other, goal, rounds, at))


def route_behind(table, stop, goal, rounds, at):
    """The route from the stop to which the leg there leads."""
    if rounds[0][at] == rounds[-1][at]:
        return walked_to(stop, goal, ("there",))
    ahead = rounds[:-1]
    later = [own for own in table.behind[at] if ahead[-1][own] == rounds[-1][at]][0]
    return walked_to(stop, table.legs[later][0], route_by(table, goal, ahead, later))


def walked_to(stop, other, route):
    """The route from the stop over the other one, from which the route behind it goes on."""
    return route if stop == other else ("walk", other, route)
