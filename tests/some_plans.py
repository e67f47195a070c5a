"""Plans for the tests: small ones, each made by a number, and those that the document tells of."""

import functools
import random

from citylines.plans import is_plan, unsound


def put_part(plan, word, value):
    at = WORDS.index(word) + 1
    return plan[:at] + (value,) + plan[at + 1:]


WORDS = ["city", "lines", "trips", "blocks", "duties", "meets", "promises", "delays", "spares", "heard", "remedies"]


def ways(rng, many, most):
    """A closed way table."""
    rows = [[0 if one == other else rng.randint(1, most) for other in range(many)] for one in range(many)]
    for one in range(many):
        for other in range(one):
            rows[one][other] = rows[other][one]
    for over in range(many):
        for one in range(many):
            for other in range(many):
                rows[one][other] = min(rows[one][other], rows[one][over] + rows[over][other])
    return tuple(tuple(row) for row in rows)


def made_lines(rng, city, many):
    lines = []
    for _ in range(many):
        stops = [rng.randrange(len(city[1]))]
        for _ in range(rng.choice([1, 1, 2, 2, 3])):
            stops.append(rng.choice([stop for stop in range(len(city[1])) if stop != stops[-1]]))
        leasts = [city[4][one][other] + rng.randint(0, 3) for one, other in zip(stops, stops[1:])]
        stands = [rng.randint(0, 2) for _ in leasts[1:]]
        lines.append(("line", tuple(stops), tuple(leasts), tuple(stands), rng.randint(1, 4)))
    return tuple(lines)


def made_trips(rng, lines, many, latest):
    trips = []
    for _ in range(many):
        line = rng.randrange(len(lines))
        minutes = [rng.randint(0, latest)]
        for least, stand in zip(lines[line][2], lines[line][3]):
            minutes.append(minutes[-1] + least + stand + rng.choice([0, 0, 0, 1, 2, 5]))
        trips.append(("trip", line, tuple(minutes)))
    return tuple(sorted(trips, key=lambda trip: (trip[2][0], trip[1])))


def told_end(lines, trip, hop):
    return trip[2][hop] + lines[trip[1]][2][hop]


def made_blocks(rng, city, lines, trips, battery):
    rows = []
    for at in sorted(range(len(trips)), key=lambda at: trips[at][2][0]):
        begin = lines[trips[at][1]][1][0]
        rng.shuffle(rows)
        for own, turns in rows:
            before = trips[own[-1]]
            drive = city[4][lines[before[1]][1][-1]][begin]
            room = trips[at][2][0] - told_end(lines, before, -1)
            if drive <= room and rng.random() < 0.9:
                own.append(at)
                turns.append(rng.choice([drive, room, rng.randint(drive, room)]) if room <= 60 else drive)
                break
        else:
            rows.append(([at], []))
    return tuple(sorted(("block", tuple(own), tuple(turns), made_battery(rng, own) if battery else None) for own, turns in rows))


def made_battery(rng, own):
    full = rng.randint(4, 20)
    return (full, tuple(rng.randint(1, full) for _ in own), rng.randint(1, 3)) if rng.random() < 0.9 else None


def made_duties(rng, city, lines, trips):
    pieces = []
    for at, trip in enumerate(trips):
        first = 0
        for hop in range(len(trip[2])):
            if hop == len(trip[2]) - 1 or rng.random() < 0.4:
                pieces.append((at, first, hop))
                first = hop + 1
    rows = []
    for piece in sorted(pieces, key=lambda piece: (trips[piece[0]][2][piece[1]], piece)):
        at, first, last = piece
        begin = lines[trips[at][1]][1][first]
        rng.shuffle(rows)
        for own, breaks in rows:
            before, _, end = own[-1]
            walk = city[3][lines[trips[before][1]][1][end + 1]][begin]
            room = trips[at][2][first] - told_end(lines, trips[before], end)
            if before != at and 1 <= walk <= room and rng.random() < 0.8:
                own.append(piece)
                breaks.append((rng.choice(["walk", "walk", "rest"]), rng.choice([walk, min(room, 120)])))
                break
        else:
            rows.append(([piece], []))
    return tuple(("duty", tuple(own), tuple(breaks)) for own, breaks in rows)


def made_meets(rng, city, lines, trips, many):
    rides = [(trip, hop) for trip in range(len(trips)) for hop in range(len(trips[trip][2]))]
    pairs = []
    for feeder in rides:
        for taker in rides:
            one = lines[trips[feeder[0]][1]][1][feeder[1] + 1]
            other = lines[trips[taker[0]][1]][1][taker[1]]
            change = city[2][one] if one == other else city[3][one][other]
            room = trips[taker[0]][2][taker[1]] - told_end(lines, trips[feeder[0]], feeder[1]) - change
            if feeder[0] != taker[0] and room >= 0:
                pairs.append((room, feeder, taker))
    # Those with little room are the ones of which something comes.
    pairs = sorted(pairs, key=lambda pair: (pair[0] > 2, rng.random()))[:many]
    rng.shuffle(pairs)
    return tuple(
        ("meet", *feeder, *taker, rng.choice([0, 1, 2, 3, 5]), rng.choice(["blind", "news", "news"]))
        for _, feeder, taker in pairs
    )


def made_promises(rng, plan, many):
    _, _, lines, trips, _, duties, meets, *_ = plan
    found = []
    for _ in range(many):
        word = rng.choice(["meets", "leaves", "ends", "driven", "long"])
        trip = rng.randrange(len(trips))
        if word == "meets" and meets:
            found.append((word, rng.randrange(len(meets))))
        elif word == "leaves":
            found.append((word, trip, rng.randrange(len(trips[trip][2])), rng.randint(0, 2)))
        elif word == "ends":
            found.append((word, trip, rng.randint(0, 3)))
        elif word in ("driven", "long"):
            duty = rng.randrange(len(duties))
            pieces = duties[duty][1]
            long = told_end(lines, trips[pieces[-1][0]], pieces[-1][2]) - trips[pieces[0][0]][2][pieces[0][1]]
            found.append((word, duty, long + rng.randint(0, 2)))
    return tuple(dict.fromkeys(found))


def made_remedies(rng, plan, many):
    """The plan with up to so many remedies, at what positions they can be put."""
    for _ in range(many):
        for _ in range(8):
            least = plan[11][-1][0] if plan[11] else 0
            position = rng.randint(least, len(plan[10]))
            more = put_part(plan, "remedies", plan[11] + ((position, made_remedy(rng, plan)),))
            if is_plan(more):
                plan = more
                break
    return plan


def made_remedy(rng, plan):
    word = rng.choice(["wait", "free", "spare", "drop", "cut"])
    trip = rng.randrange(len(plan[3]))
    if word in ("wait", "free"):
        meet = rng.randrange(max(1, len(plan[6])))
        return (word, meet, rng.choice([0, 1, 2, 4, 9])) if word == "wait" else (word, meet)
    if word == "drop":
        return (word, trip)
    return (word, trip, rng.choice([0, 0, 1, 3]) if word == "spare" else rng.randrange(len(plan[3][trip][2])))


@functools.cache
def made(number, rides=6, bound=3, budget=4, battery=None, spares=None, remedies=None):
    """A sound plan of at most so many rides; what is not told is as it happens to be."""
    rng = random.Random(number)
    battery = rng.random() < 0.4 if battery is None else battery
    while True:
        many = rng.randint(2, 4)
        city = (
            "city", tuple(rng.randint(1, 4) for _ in range(many)), tuple(rng.randint(0, 2) for _ in range(many)),
            ways(rng, many, 4), ways(rng, many, 4),
        )
        lines = made_lines(rng, city, rng.randint(1, 3))
        trips = made_trips(rng, lines, rng.randint(2, 5), rng.choice([8, 15, 25]))
        if sum(len(trip[2]) for trip in trips) > rides:
            continue
        blocks = made_blocks(rng, city, lines, trips, battery)
        if battery and not any(block[3] and len(block[1]) > 1 for block in blocks):
            continue
        plan = ("plan", city, lines, trips, blocks, made_duties(rng, city, lines, trips))
        plan += (made_meets(rng, city, lines, trips, rng.choice([0, 1, 2, 3])),)
        plan += (made_promises(rng, plan, rng.choice([0, 1, 2, 4])),)
        bounds = tuple(tuple(rng.choice([0, 1, bound, bound]) for _ in trip[2]) for trip in trips)
        plan += ((bounds, rng.choice([0, 1, budget, budget, budget])), None, (), ())
        if not is_plan(plan):
            continue
        return finished(rng, plan, spares, remedies)


def finished(rng, plan, spares, remedies):
    """The plan with spares, something heard, remedies, as it happens to be or as it is told."""
    if spares or (spares is None and rng.random() < 0.4):
        plan = put_part(plan, "spares", (rng.randint(0, 3), rng.randint(0, 2), rng.randint(0, 3)))
    if remedies is False or (remedies is None and rng.random() < 0.4):
        return plan
    rides = sorted((minute, trip, hop) for trip in range(len(plan[3])) for hop, minute in enumerate(plan[3][trip][2]))
    heard = []
    for _, trip, hop in rides[:rng.randint(0, len(rides))]:
        heard.append(min(rng.choice([0, 1, 2]), plan[8][0][trip][hop], plan[8][1] - sum(heard)))
    plan = made_remedies(rng, put_part(plan, "heard", tuple(heard)), rng.randint(0, 3))
    assert unsound(plan) is None
    return plan


def wide(bounds, budget, wait=0, way="blind", promises=()):
    """Trips of one ride each with these bounds, far apart, and a last one that all of them are to meet.

    Ahead of the last ride each has a standing of its own for each row of delays.
    """
    many = len(bounds)
    city = ("city", (1, 1, 1), (0, 0, 0), ((0, 5, 5), (5, 0, 5), (5, 5, 0)), ((0, 5, 5), (5, 0, 5), (5, 5, 0)))
    lines = (("line", (0, 1), (10,), (), 1), ("line", (1, 2), (10,), (), 1))
    trips = tuple(("trip", 0, (30 * at,)) for at in range(many)) + (("trip", 1, (30 * many + 10,)),)
    blocks = tuple(("block", (at,), (), None) for at in range(many + 1))
    duties = tuple(("duty", ((at, 0, 0),), ()) for at in range(many + 1))
    meets = tuple(("meet", at, 0, many, 0, wait, way) for at in range(many))
    delays = (tuple((bound,) for bound in bounds) + ((0,),), budget)
    return ("plan", city, lines, trips, blocks, duties, meets, promises, delays, None, (), ())


# As many rows in the greatest table of `wide` plans, or in all of them together.
ROWS_4000 = ((1, 4, 4, 8, 9), 18)
ROWS_4001 = ((1, 6, 6, 6, 6), 16)
STEPS_40000 = ((5, 4, 6, 9, 1) + (0,) * 10, 16)
STEPS_40001 = ((7, 6, 8, 0, 1, 6) + (0,) * 9, 14)


def table_sizes(bounds, budget):
    """How many rows of delays there are of the first trips of a `wide` plan, for each number of them."""
    sums, sizes = {0: 1}, [1]
    for bound in bounds:
        more = {}
        for spent, many in sums.items():
            for delay in range(min(bound, budget - spent) + 1):
                more[spent + delay] = more.get(spent + delay, 0) + many
        sums = more
        sizes.append(sum(sums.values()))
    return sizes + [1]
