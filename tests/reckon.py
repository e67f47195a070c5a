"""The tests' own reckoning of days: ride by ride from the document's words, waiting and charging minute by minute."""


def all_rides(trips):
    rides = [(trip, hop) for trip in range(len(trips)) for hop in range(len(trips[trip][2]))]
    return sorted(rides, key=lambda ride: (trips[ride[0]][2][ride[1]], ride))


class Reckoned:
    """A day: what came of each ride, by (trip, hop)."""

    def __init__(self, plan, course):
        (_, self.city, self.lines, self.trips, self.blocks, self.duties, self.meets, self.promises, _, self.spares,
         _, self.remedies) = plan
        self.rides = all_rides(self.trips)
        self.delay = dict(zip(self.rides, course, strict=True))
        self.off, self.freed, self.vehicles = set(), set(), {}
        self.wait = {number: meet[5] for number, meet in enumerate(self.meets)}
        for _, remedy in self.remedies:
            self.put(remedy)
        self.gone_meets = {
            number for number, meet in enumerate(self.meets)
            if number in self.freed or meet[1:3] in self.off or meet[3:5] in self.off
        }
        self.left, self.come, self.level, self.spared = {}, {}, {}, set()
        self.made, self.why, self.lefts = {}, {}, []
        self.stock = self.spares[0] if self.spares is not None else None
        self.breaks = []
        for position, ride in enumerate(self.rides):
            self.lefts.append(self.stock)
            if ride not in self.off:
                self.go(position, ride)
        self.lefts.append(self.stock)

    def put(self, remedy):
        if remedy[0] == "wait":
            self.wait[remedy[1]] = remedy[2]
        elif remedy[0] == "free":
            self.freed.add(remedy[1])
        elif remedy[0] == "spare":
            self.vehicles.setdefault(remedy[1], []).append(remedy[2])
        else:
            behind = -1 if remedy[0] == "drop" else remedy[2]
            self.off.update(ride for ride in self.rides if ride[0] == remedy[1] and ride[1] > behind)

    def told(self, ride):
        return self.trips[ride[0]][2][ride[1]]

    def least(self, ride):
        return self.lines[self.trips[ride[0]][1]][2][ride[1]]

    def stops(self, ride):
        return self.lines[self.trips[ride[0]][1]][1][ride[1]:ride[1] + 2]

    def own(self, ride):
        """The own minute, None without one; by the way spares set out, and vehicles become the block's."""
        trip, hop = ride
        if hop > 0:
            return self.come[(trip, hop - 1)] + self.lines[self.trips[trip][1]][3][hop - 1]
        block = next(block for block in self.blocks if trip in block[1])
        place = block[1].index(trip)
        if place == 0:
            return None
        minute = self.ready(block, place)
        if trip in self.vehicles and self.told(ride) + min(self.vehicles[trip]) < minute:
            minute = self.told(ride) + min(self.vehicles[trip])
            self.spared.add(trip)
        if self.stock:
            _, late, access = self.spares
            if minute > self.told(ride) + late:
                self.stock -= 1
                if self.told(ride) + late + access < minute:
                    minute = self.told(ride) + late + access
                    self.spared.add(trip)
        return minute

    def end_of(self, trip):
        return (trip, len(self.trips[trip][2]) - 1)

    def ready(self, block, place):
        _, trips, turns, battery = block
        came = self.come[self.end_of(trips[place - 1])]
        minute = came + turns[place - 1]
        if battery is not None:
            level, charged = self.level[trips[place - 1]], came
            while level < battery[1][place]:
                level += battery[2]
                charged += 1
            minute = max(minute, charged)
        return minute

    def charge(self, ride):
        trip, hop = ride
        block = next(block for block in self.blocks if trip in block[1])
        if hop > 0 or block[3] is None:
            return
        full, needs, rate = block[3]
        place = block[1].index(trip)
        level = full
        if place > 0 and trip not in self.spared:
            level = self.level[block[1][place - 1]]
            for _ in range(self.come[self.end_of(block[1][place - 1])], self.left[ride]):
                level = min(full, level + rate)
        self.level[trip] = level - needs[place]

    def run_rides(self, piece):
        trip, first, last = piece
        return [(trip, hop) for hop in range(first, last + 1) if (trip, hop) not in self.off]

    def piece_of(self, ride):
        for duty in range(len(self.duties)):
            for place, piece in enumerate(self.duties[duty][1]):
                if ride in self.run_rides(piece):
                    return duty, place
        raise AssertionError(ride)

    def driver(self, ride):
        duty, place = self.piece_of(ride)
        _, pieces, breaks = self.duties[duty]
        if place == 0 or pieces[place][1] != ride[1]:
            return None
        return self.come[self.run_rides(pieces[place - 1])[-1]] + breaks[place - 1][1]

    def ahead(self, ride):
        """The ride of the last trip ahead on the line that runs this hop."""
        trip, hop = ride
        line = self.trips[trip][1]
        found = [(other, hop) for other in range(trip) if self.trips[other][1] == line and (other, hop) not in self.off]
        return found[-1] if found else None

    def apart(self, ride):
        return self.lines[self.trips[ride[0]][1]][4]

    def change(self, feeder, taker):
        one, other = self.stops(feeder)[1], self.stops(taker)[0]
        return self.city[2][one] if one == other else self.city[3][one][other]

    def comes(self, number):
        meet = self.meets[number]
        return self.come[meet[1:3]] + self.change(meet[1:3], meet[3:5])

    def asks(self, number, minute):
        meet = self.meets[number]
        feeder, taker = meet[1:3], meet[3:5]
        till = self.told(taker) + self.wait[number]
        if self.comes(number) <= minute or minute >= till:
            return False
        if meet[6] == "blind" or self.left[feeder] <= minute:
            return meet[6] == "blind" or self.comes(number) <= till
        return minute + 1 + self.least(feeder) + self.change(feeder, taker) <= till

    def go(self, position, ride):
        minutes = [("told", self.told(ride)), ("own" if ride[1] else "block", self.own(ride)), ("driver", self.driver(ride))]
        ahead = self.ahead(ride)
        minutes.append(("apart", None if ahead is None else self.left[ahead] + self.apart(ride)))
        ready = max(minute for _, minute in minutes if minute is not None)
        wanted = [m for m, meet in enumerate(self.meets) if meet[3:5] == ride and m not in self.gone_meets]
        minute = ready
        while any(self.asks(number, minute) for number in wanted):
            minute += 1
        self.left[ride] = minute
        if minute == ready:
            why = [(word,) for word, at in minutes if at == minute]
        else:
            why = [("meet", number) for number in wanted if self.asks(number, minute - 1)]
        arrivals = [("delay", minute + self.least(ride) + self.delay[ride])]
        if ahead is not None:
            arrivals.append(("apart", self.come[ahead] + self.apart(ride)))
        self.come[ride] = max(arrival for _, arrival in arrivals)
        self.why[ride] = (why, [(word,) for word, arrival in arrivals if arrival == self.come[ride]])
        for number in wanted:
            self.made[number] = self.comes(number) <= minute
        self.charge(ride)
        for number, promise in enumerate(self.promises):
            by = self.broken_by(ride, promise)
            if by > 0:
                self.breaks.append((position, number, by))

    def broken_by(self, ride, promise):
        if promise[0] == "meets":
            if self.meets[promise[1]][3:5] == ride and promise[1] not in self.gone_meets:
                return self.comes(promise[1]) - self.left[ride]
        elif promise[0] == "leaves":
            if promise[1:3] == ride:
                return self.left[ride] - self.told(ride) - promise[3]
        elif promise[0] == "ends":
            if self.end_of(promise[1]) == ride:
                return self.come[ride] - self.told(ride) - self.least(ride) - promise[2]
        else:
            duty, place = self.piece_of(ride)
            _, pieces, breaks = self.duties[duty]
            if duty == promise[1] and self.run_rides(pieces[place])[-1] == ride:
                while promise[0] == "driven" and place > 0 and breaks[place - 1][0] == "walk":
                    place -= 1
                begin = pieces[place if promise[0] == "driven" else 0]
                return self.come[ride] - self.left[begin[:2]] - promise[2]
        return 0

    def day(self):
        times = tuple((self.left.get(ride), self.come.get(ride)) for ride in self.rides)
        made = tuple(self.made.get(number) for number in range(len(self.meets)))
        return ("day", times, made, tuple(self.breaks))

    def reasons(self, position):
        return self.why.get(self.rides[position], ([], []))


def reckoned_day(plan, course):
    return Reckoned(plan, course).day()


def let_bounds(plan):
    """For each ride, in the sequence, its bound: 0 of one that is not run."""
    rides = all_rides(plan[3])
    off = Reckoned(plan, [0] * len(rides)).off
    return [0 if ride in off else plan[8][0][ride[0]][ride[1]] for ride in rides]


def prefixes(plan, many):
    """All prefixes of so many of courses, as lists, sorted."""
    bounds, heard, budget = let_bounds(plan), plan[10], plan[8][1]
    found = [[]]
    for at in range(many):
        let = [heard[at]] if at < len(heard) else range(bounds[at] + 1)
        rest = sum(heard[at + 1:])
        found = [one + [delay] for one in found for delay in let if sum(one) + delay + rest <= budget]
    return found


def courses(plan):
    return prefixes(plan, len(let_bounds(plan)))


def least_of(some):
    """The least one of some courses, None of none."""
    return min(some, key=lambda course: (sum(course), course), default=None)


def asked(plan):
    """For each ride, in the sequence, the set of what it asks of others by the table of [41]: (word, ride)."""
    _, _, _, trips, blocks, duties, meets, promises, *_ = plan
    known = Reckoned(plan, [0] * len(all_rides(trips)))
    found = []
    for ride in known.rides:
        trip, hop = ride
        asks = set()
        found.append(asks)
        if ride in known.off:
            continue
        if hop > 0:
            asks.add(("end", (trip, hop - 1)))
        for _, own, _, _ in blocks:
            if hop == 0 and trip in own[1:]:
                asks.add(("end", known.end_of(own[own.index(trip) - 1])))
        duty, place = known.piece_of(ride)
        pieces, breaks = duties[duty][1:]
        if pieces[place][1] == hop and place > 0:
            asks.add(("end", known.run_rides(pieces[place - 1])[-1]))
        if known.ahead(ride) is not None:
            asks.update([("left", known.ahead(ride)), ("end", known.ahead(ride))])
        for number, meet in enumerate(meets):
            if meet[3:5] == ride and number not in known.gone_meets:
                asks.add(("end", meet[1:3]))
                if meet[6] == "news":
                    asks.add(("left", meet[1:3]))
        if known.run_rides(pieces[place])[-1] == ride:
            words = [promise[0] for promise in promises if promise[0] in ("driven", "long") and promise[1] == duty]
            rest = max([0] + [at + 1 for at in range(place) if breaks[at][0] == "rest"])
            for word, begin in (("driven", rest), ("long", 0)):
                if word in words and pieces[begin][:2] != ride:
                    asks.add(("left", pieces[begin][:2]))
    return found


def fields_at(plan, many):
    """The fields at many, by [42]."""
    known, asks = Reckoned(plan, [0] * len(all_rides(plan[3]))), asked(plan)
    found = []
    for at in range(many):
        for word in ("end", "left"):
            if any((word, known.rides[at]) in later for later in asks[many:]):
                found.append((word, at))
    for block, (_, trips, _, battery) in enumerate(plan[4]):
        begun = [known.rides.index((trip, 0)) < many for trip in trips if (trip, 0) not in known.off]
        if battery is not None and True in begun and False in begun:
            found.append(("level", block))
    return found + ([] if plan[9] is None else [("spares",)])


def standing_of(known, fields, many):
    """The standing of a reckoned day at many."""
    found = []
    for word, *at in fields:
        if word == "spares":
            found.append(known.lefts[many])
        elif word == "level":
            begun = [trip for trip in known.blocks[at[0]][1] if (trip, 0) in known.rides[:many] and (trip, 0) not in known.off]
            found.append(known.level[begun[-1]])
        else:
            ride = known.rides[at[0]]
            late = known.left[ride] - known.told(ride)
            found.append(late if word == "left" else known.come[ride] - known.told(ride) - known.least(ride))
    return tuple(found)


def step_of(known, fields, at):
    """The step of the ride at this position on a reckoned day, with the fields behind it."""
    ride = known.rides[at]
    times = (known.left.get(ride), known.come.get(ride))
    made = tuple(m for m, meet in enumerate(known.meets) if meet[3:5] == ride and known.made.get(m))
    breaks = tuple((promise, by) for position, promise, by in known.breaks if position == at)
    return (standing_of(known, fields, at + 1), times, made, breaks)
