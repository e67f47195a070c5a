"""Sheets: a sound plan's rides in their sequence, and what each of them asks of others."""

from citylines.basics import plain
from citylines.blocks import block_place
from citylines.cities import change_of
from citylines.duties import duty_place, stretch_begins
from citylines.marks import is_gone, run_hops_of, waits_of
from citylines.trips import sequence_of, stop_ahead, stop_behind, told_arrival


class Sheet:
    """A sound plan's rides in the sequence: which are run, what they are told, and their bounds."""

    def __init__(self, plan):
        own = plain(plan)
        _, _, lines, trips, _, _, meets, promises, delays, _, heard, remedies = own
        self.plan = own
        self.sequence = sequence_of(trips)
        self.where = {ride: at for at, ride in enumerate(self.sequence)}
        self.hops = run_hops_of(trips, remedies)
        self.waits = waits_of(meets, self.hops, remedies)
        self.gone = [is_gone(own, self.hops, self.waits, promise) for promise in promises]
        self.runs = [hop < self.hops[trip] for trip, hop in self.sequence]
        self.told = [(trips[trip][2][hop], told_arrival(lines, trips[trip], hop)) for trip, hop in self.sequence]
        bounds = [delays[0][trip][hop] for trip, hop in self.sequence]
        self.bounds = [bound if run else 0 for bound, run in zip(bounds, self.runs)]
        self.budget = delays[1]
        self.heard = heard


class Asked:
    """What one ride that is run asks: each minute as a field, and the minute that counts where the field is 0."""

    def __init__(self, sheet, at):
        self.own = asked_own(sheet, at)
        self.vehicle = asked_vehicle(sheet, at)
        self.level = asked_level(sheet, at)
        self.driver = asked_driver(sheet, at)
        self.ahead = asked_ahead(sheet, at)
        self.feeders = asked_feeders(sheet, at)
        self.told = asked_promises(sheet, at)


def fields_asked(asked):
    """The list of the fields of arrivals and departures that one ride asks, some perhaps more than once."""
    pairs = [asked.own, asked.vehicle, asked.driver]
    if asked.ahead is not None:
        pairs.extend(asked.ahead)
    for feeder in asked.feeders:
        pairs.extend(feeder[1:3])
    pairs.extend([pair for _, _, pair, _ in asked.told])
    return [pair[0] for pair in pairs if pair is not None and pair[0] is not None]


def asked_own(sheet, at):
    """Of a ride behind its trip's first one: the arrival of the ride ahead, and the told one with the stand."""
    trip, hop = sheet.sequence[at]
    if hop == 0:
        return None
    lines, trips = sheet.plan[2], sheet.plan[3]
    ahead = sheet.where[(trip, hop - 1)]
    return (("end", ahead), sheet.told[ahead][1] + lines[trips[trip][1]][3][hop - 1])


def asked_vehicle(sheet, at):
    """Of the first ride of a trip that is not its block's first: the arrival of the trip ahead, and the told one."""
    trip, hop = sheet.sequence[at]
    blocks, trips = sheet.plan[4], sheet.plan[3]
    position, place = block_place(blocks, trip)
    if hop > 0 or place == 0:
        return None
    before = blocks[position][1][place - 1]
    ahead = sheet.where[(before, len(trips[before][2]) - 1)]
    return (("end", ahead), sheet.told[ahead][1])


def asked_level(sheet, at):
    """Of such a ride of a block with a battery: the field of its level."""
    trip, _ = sheet.sequence[at]
    blocks = sheet.plan[4]
    position, _ = block_place(blocks, trip)
    if asked_vehicle(sheet, at) is None or blocks[position][3] is None:
        return None
    return ("level", position)


def asked_driver(sheet, at):
    """Of the first ride of a piece that is not its duty's first: the arrival ahead, the told one with the break."""
    trip, hop = sheet.sequence[at]
    duties = sheet.plan[5]
    position, place = duty_place(duties, trip, hop)
    _, pieces, breaks = duties[position]
    if place == 0 or pieces[place][1] != hop:
        return None
    before, _, last = pieces[place - 1]
    ahead = sheet.where[(before, last)]
    return (("end", ahead), sheet.told[ahead][1] + breaks[place - 1][1])


def asked_ahead(sheet, at):
    """Departure and arrival of the last trip ahead on the line that runs the hop, with the apart; None without one."""
    trip, hop = sheet.sequence[at]
    lines, trips = sheet.plan[2], sheet.plan[3]
    line = trips[trip][1]
    ahead = [other for other in range(trip) if trips[other][1] == line and hop < sheet.hops[other]]
    if not ahead:
        return None
    position, apart = sheet.where[(ahead[-1], hop)], lines[line][4]
    left, come = sheet.told[position]
    return ((("left", position), left + apart), (("end", position), come + apart))


def asked_feeders(sheet, at):
    """For each meet that is not gone with this taker: (meet, departure, arrival, least, change, till, way).

    The departure is told with no field where the way is "blind", as nothing hangs on it there.
    """
    _, city, lines, trips, _, _, meets, _, _, _, _, _ = sheet.plan
    found = []
    for position, meet in enumerate(meets):
        _, feeder, behind, taker, ahead, _, way = meet
        if sheet.waits[position] is None or (taker, ahead) != sheet.sequence[at]:
            continue
        change = change_of(city, stop_behind(lines, trips[feeder], behind), stop_ahead(lines, trips[taker], ahead))
        come = sheet.where[(feeder, behind)]
        left, arrival = sheet.told[come]
        till = sheet.told[at][0] + sheet.waits[position]
        pair = (("left", come) if way == "news" else None, left)
        found.append((position, pair, (("end", come), arrival), arrival - left, change, till, way))
    return found


def asked_promises(sheet, at):
    """For each promise that is not gone and can break at the ride: (promise, word, begin, limit).

    The begin is the departure from which a span counts, None where that is the ride's own or where there is none;
    of a promise "meets" the limit is its meet.
    """
    found = []
    for position, promise in enumerate(sheet.plan[7]):
        if not sheet.gone[position]:
            found.extend(asked_promise(sheet, at, position, promise))
    return found


def asked_promise(sheet, at, position, promise):
    """The list of what is told for this promise, empty if it cannot break at the ride."""
    trips, meets = sheet.plan[3], sheet.plan[6]
    trip, hop = sheet.sequence[at]
    word, what = promise[0], promise[1]
    if word == "meets":
        return [(position, word, None, what)] if meets[what][3:5] == (trip, hop) else []
    if word == "leaves":
        return [(position, word, None, sheet.told[at][0] + promise[3])] if (what, promise[2]) == (trip, hop) else []
    if word == "ends":
        is_last = (what, len(trips[what][2]) - 1) == (trip, hop)
        return [(position, word, None, sheet.told[at][1] + promise[2])] if is_last else []
    return asked_span(sheet, at, position, promise)


def asked_span(sheet, at, position, promise):
    """The same for a promise "driven" or "long"."""
    trip, hop = sheet.sequence[at]
    word, what, most = promise
    duties = sheet.plan[5]
    own, place = duty_place(duties, trip, hop)
    _, pieces, _ = duties[own]
    # A piece ends with the last of its rides that is run.
    if own != what or hop != min(pieces[place][2], sheet.hops[trip] - 1):
        return []
    begins = [begin for begin in stretch_begins(duties[own]) if begin <= place] if word == "driven" else [0]
    first, ahead, _ = pieces[begins[-1]]
    begin = sheet.where[(first, ahead)]
    if begin == at:
        return [(position, "hop", None, most)]
    return [(position, word, (("left", begin), sheet.told[begin][0]), most)]
