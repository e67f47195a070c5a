"""Charts: a sound plan laid out for its steps, with the fields at each position and where each ride finds them."""

from citylines.blocks import block_place
from citylines.marks import access_of
from citylines.sheets import Asked, fields_asked, Sheet


class Chart:
    """A sheet, for each position the fields there, and for each ride its call."""

    def __init__(self, sheet, shapes, calls):
        self.sheet = sheet
        self.plan = sheet.plan
        self.budget = sheet.budget
        self.heard = sheet.heard
        self.bounds = sheet.bounds
        self.many = len(sheet.sequence)
        self.shapes = shapes
        self.calls = calls


class Call:
    """One ride, with the places in the standing ahead of it of what it asks, each beside what counts with a 0 there."""

    def __init__(self, sheet, at, asked, slots):
        trip, hop = sheet.sequence[at]
        position, place = block_place(sheet.plan[4], trip)
        self.hop = hop
        self.leave, self.come = sheet.told[at]
        self.least = self.come - self.leave
        self.block = sheet.plan[4][position]
        self.place = place
        self.spares = sheet.plan[9]
        self.access = access_of(trip, sheet.plan[11])
        self.own = placed(asked.own, slots)
        self.vehicle = placed(asked.vehicle, slots)
        self.level = None if asked.level is None else slots[asked.level]
        self.driver = placed(asked.driver, slots)
        self.ahead = None if asked.ahead is None else [placed(pair, slots) for pair in asked.ahead]
        self.meets = [row[0] for row in asked.feeders]
        self.feeders = [(placed(row[1], slots), placed(row[2], slots)) + row[3:] for row in asked.feeders]
        self.told = [(number, word, placed(pair, slots), limit) for number, word, pair, limit in asked.told]
        self.kept = []


class Passed:
    """A ride that is not run: what stands ahead of it stands behind it."""

    def __init__(self):
        self.kept = []


def placed(pair, slots):
    """The pair with the place of its field in the place of the field, None if there is none."""
    if pair is None or pair[0] is None:
        return pair
    return (slots[pair[0]], pair[1])


def chart_of(plan):
    """The chart of what is known to be a sound plan."""
    sheet = Sheet(plan)
    rides = range(len(sheet.sequence))
    asked = [Asked(sheet, at) if sheet.runs[at] else None for at in rides]
    shapes = shapes_of(sheet, asked)
    calls = []
    for at in rides:
        slots = {field: slot for slot, field in enumerate(shapes[at])}
        call = Passed() if asked[at] is None else Call(sheet, at, asked[at], slots)
        call.kept = [kept_slot(sheet, at, field, slots, asked[at]) for field in shapes[at + 1]]
        calls.append(call)
    return Chart(sheet, shapes, calls)


def shapes_of(sheet, asked):
    """The list of the lists of fields at 0, at 1, .., at as many as there are rides."""
    last = {}
    for at, own in enumerate(asked):
        if own is not None:
            for field in fields_asked(own):
                last[field] = at
    shapes = []
    for many in range(len(asked) + 1):
        both = [(word, at) for at in range(many) for word in ("end", "left")]
        shape = [field for field in both if last.get(field, 0) >= many]
        shape.extend([("level", block) for block in range(len(sheet.plan[4])) if is_level_field(sheet, many, block)])
        shapes.append(shape if sheet.plan[9] is None else shape + [("spares",)])
    return shapes


def is_level_field(sheet, many, block):
    """Whether the level of the block is a field there: with a battery, and begun, but not with its last trip."""
    _, trips, _, battery = sheet.plan[4][block]
    firsts = [sheet.where[(trip, 0)] for trip in trips if sheet.hops[trip] > 0]
    return battery is not None and len(firsts) > 1 and min(firsts) < many <= max(firsts)


def kept_slot(sheet, at, field, slots, asked):
    """Where the field of the standing behind the ride stands in that ahead of it, or behind that among what is new.

    What is new is, in this sequence, how much later than told the ride arrives and leaves, the level, the spares left.
    """
    trip, hop = sheet.sequence[at]
    new = len(slots)
    if field == ("end", at):
        return new
    if field == ("left", at):
        return new + 1
    if asked is not None and hop == 0 and field == ("level", block_place(sheet.plan[4], trip)[0]):
        return new + 2
    if asked is not None and asked.vehicle is not None and field == ("spares",):
        return new + 3
    return slots[field]
