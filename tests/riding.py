"""The tests' own riders: how one goes by a route, told segment by segment from the document's words; some ways."""

import random

from reckon import Reckoned, all_rides


def parts(route):
    """The parts of a route as they are written, from 0 on."""
    found = [route]
    for inner in route[1:]:
        if isinstance(inner, tuple):
            found.extend(parts(inner))
    return found


def is_route(plan, stop, route, deep=12):
    """The definition of a route, for tuples that have the right form."""
    stops = range(len(plan[1][1]))
    if deep == 0:
        return False
    if route == ("there",):
        return True
    if route[0] == "walk":
        return route[1] in stops and route[1] != stop and is_route(plan, route[1], route[2], deep - 1)
    if route[0] == "ride":
        if route[1] not in range(len(plan[2])) or route[2] not in stops or route[2] == stop:
            return False
        return hops_of(plan, route[1], stop, route[2]) is not None and is_route(plan, route[2], route[3], deep - 1)
    if route[0] == "by" and 0 <= route[1] <= 1999:
        return is_route(plan, stop, route[2], deep - 1) and is_route(plan, stop, route[3], deep - 1)
    return False


def hops_of(plan, line, stop, other):
    """Boarding and alighting hop, None if the line does not go so."""
    stops = plan[2][line][1]
    for first in range(len(stops) - 1):
        if stops[first] == stop:
            for last in range(first, len(stops) - 1):
                if stops[last + 1] == other:
                    return first, last
    return None


class Riding:
    """A rider in a course: the arrival, the trips taken, and all places."""

    def __init__(self, plan, course, way):
        self.plan, self.known = plan, Reckoned(plan, course)
        self.ridden, self.arrival = [], None
        # Each segment: (position from which on it holds, place).
        self.segments = []
        stop, minute, route = way
        self.behind = -1
        self.go(stop, minute, route, 0, False)

    def go(self, stop, minute, route, number, came):
        """On from this part, which has this number; came tells whether by a ride and without a walk since."""
        word = route[0]
        if word == "there":
            self.arrival = minute
            self.segments.append((self.behind + 1, ("there", minute)))
        elif word == "walk":
            self.go(route[1], minute + self.plan[1][3][stop][route[1]], route[2], number + 1, False)
        elif word == "by" and minute <= route[1]:
            self.go(stop, minute, route[2], number + 1, came)
        elif word == "by":
            self.go(stop, minute, route[3], number + 1 + len(parts(route[2])), came)
        else:
            self.ride(stop, minute + self.plan[1][2][stop] if came else minute, route, number)

    def ride(self, stop, ready, route, number):
        first, last = hops_of(self.plan, route[1], stop, route[2])
        self.segments.append((self.behind + 1, ("at", ready, number)))
        rides, off = self.known.rides, self.known.off
        for trip in range(len(self.plan[3])):
            if self.plan[3][trip][1] != route[1] or (trip, first) in off or (trip, last) in off:
                continue
            if rides.index((trip, first)) <= self.behind or self.known.left[trip, first] < ready:
                continue
            self.ridden.append((trip, first, last))
            if last > first:
                self.segments.append((rides.index((trip, first)) + 1, ("in", trip, number)))
            self.behind = rides.index((trip, last))
            self.go(route[2], self.known.come[trip, last], route[3], number + 1, True)
            return

    def places(self):
        found = []
        for many in range(len(self.known.rides) + 1):
            found.append([place for since, place in self.segments if since <= many][-1])
        return found


def made_route(rng, plan, stop, deep):
    """A route from the stop, of at most so many parts in depth."""
    stops = range(len(plan[1][1]))
    rides = [
        (line, other) for line in range(len(plan[2])) for other in stops
        if other != stop and hops_of(plan, line, stop, other) is not None
    ]
    word = rng.choice(["ride", "ride", "ride", "ride", "walk", "by", "there"]) if deep > 1 else "there"
    if word == "ride" and rides:
        line, other = rng.choice(rides)
        return (word, line, other, made_route(rng, plan, other, deep - 1))
    if word == "walk":
        other = rng.choice([other for other in stops if other != stop])
        return (word, other, made_route(rng, plan, other, deep - 1))
    if word == "by":
        return (word, rng.randint(0, 40), made_route(rng, plan, stop, deep - 1), made_route(rng, plan, stop, deep - 1))
    return ("there",)


def made_way(number, plan, deep=5):
    """A way of the plan; one with a ride that can be taken, where one is soon found."""
    rng = random.Random(number)
    for _ in range(12):
        stop = rng.randrange(len(plan[1][1]))
        way = (stop, rng.choice([0, 0, 3, 8, 15]), made_route(rng, plan, stop, deep))
        if Riding(plan, [*plan[10]] + [0] * (len(all_rides(plan[3])) - len(plan[10])), way).ridden:
            break
    return way
