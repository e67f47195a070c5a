"""Steps: how a ride turns out behind a standing, by the rule of the day."""

from citylines.blocks import level_behind, ready_at
from citylines.meets import comes_by, leaves_at


def minute_of(pair, standing):
    """The minute that is asked: what counts with a 0 in the standing, and what stands there."""
    slot, minute = pair
    return minute if slot is None else minute + standing[slot]


def first_of(chart):
    """The first standing."""
    spares = chart.plan[9]
    return () if spares is None else (spares[0],)


class Leaving:
    """A ride from a standing, up to its departure."""

    def __init__(self, call, standing):
        self.spares = None
        self.fresh = False
        self.minutes = minutes_of(self, call, standing)
        self.ready = max([minute for _, minute in self.minutes])
        self.feeds = [feed_of(feeder, standing) for feeder in call.feeders]
        self.departure = leaves_at(self.ready, self.feeds)


def minutes_of(leaving, call, standing):
    """The list of all (reason, minute) of which the greatest minute is when the ride is ready."""
    found = [("told", call.leave)]
    if call.own is not None:
        found.append(("own", minute_of(call.own, standing)))
    if call.vehicle is not None:
        found.append(("block", vehicle_minute(leaving, call, standing)))
    if call.driver is not None:
        found.append(("driver", minute_of(call.driver, standing)))
    if call.ahead is not None:
        found.append(("apart", minute_of(call.ahead[0], standing)))
    return found


def vehicle_minute(leaving, call, standing):
    """The minute at which the block's vehicle is ready; noted is what becomes of the spares, and of the vehicle."""
    level = None if call.level is None else standing[call.level]
    minute = ready_at(call.block, call.place, level, minute_of(call.vehicle, standing))
    if call.access is not None and call.leave + call.access < minute:
        minute = call.leave + call.access
        leaving.fresh = True
    if call.spares is None:
        return minute
    _, late, access = call.spares
    # How many spares are left stands last in each standing.
    leaving.spares = standing[-1]
    if minute <= call.leave + late or leaving.spares == 0:
        return minute
    # One sets out, whatever comes of it.
    leaving.spares = leaving.spares - 1
    if call.leave + late + access < minute:
        minute = call.leave + late + access
        leaving.fresh = True
    return minute


def feed_of(feeder, standing):
    """The feed of a meet, as the standing tells of its feeder."""
    left, come, least, change, till, way = feeder
    return (minute_of(left, standing), minute_of(come, standing), least, change, till, way)


def level_of(leaving, call, standing):
    """The level behind the departure of a trip's first ride, None without a battery."""
    if call.hop > 0 or call.block[3] is None:
        return None
    if call.level is None or leaving.fresh:
        full, needs, _ = call.block[3]
        return full - needs[call.place]
    came = minute_of(call.vehicle, standing)
    return level_behind(call.block, call.place, standing[call.level], leaving.departure - came)


def arrival_of(call, standing, departure, delay):
    """The arrival of a ride that leaves then."""
    arrival = departure + call.least + delay
    return arrival if call.ahead is None else max(arrival, minute_of(call.ahead[1], standing))


def breaks_of(call, standing, leaving, arrival):
    """The tuple of the tuples (promise, by) of what breaks at the ride."""
    found = []
    for number, word, pair, limit in call.told:
        by = by_of(call, standing, leaving, arrival, (word, pair, limit))
        if by > 0:
            found.append((number, by))
    return tuple(found)


def by_of(call, standing, leaving, arrival, told):
    """By how much a promise breaks at the ride, at most 0 if it is kept there."""
    word, pair, limit = told
    if word == "meets":
        _, come, _, change, _, _ = leaving.feeds[call.meets.index(limit)]
        return come + change - leaving.departure
    if word == "leaves":
        return leaving.departure - limit
    if word == "ends":
        return arrival - limit
    begin = leaving.departure if pair is None else minute_of(pair, standing)
    return arrival - begin - limit


def steps_from(chart, at, standing, delays):
    """For each of these delays the step of the ride at this position: (standing, times, made, breaks)."""
    call = chart.calls[at]
    if not chart.sheet.runs[at]:
        same = (tuple([standing[slot] for slot in call.kept]), (None, None), (), ())
        return [same for _ in delays]
    leaving = Leaving(call, standing)
    departure = leaving.departure
    made = tuple([meet for meet, feed in zip(call.meets, leaving.feeds) if comes_by(feed, departure)])
    level = level_of(leaving, call, standing)
    found = []
    for delay in delays:
        arrival = arrival_of(call, standing, departure, delay)
        pool = standing + (arrival - call.come, departure - call.leave, level, leaving.spares)
        behind = tuple([pool[slot] for slot in call.kept])
        found.append((behind, (departure, arrival), made, breaks_of(call, standing, leaving, arrival)))
    return found


def departure_of(chart, at, standing):
    """The departure of a ride that is run, from a standing."""
    return Leaving(chart.calls[at], standing).departure


def walked(chart, delays):
    """The list of the steps of the first delays of a course, one behind another, from the first standing on."""
    standing = first_of(chart)
    found = []
    for at, delay in enumerate(delays):
        step = steps_from(chart, at, standing, [delay])[0]
        found.append(step)
        standing = step[0]
    return found


def standing_behind(chart, delays):
    """The standing behind the first delays of a course."""
    steps = walked(chart, delays)
    return steps[-1][0] if steps else first_of(chart)
