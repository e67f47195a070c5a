"""Texts of plans and of ways, and what they are read as."""

from citylines.basics import clock_minute, clock_text, is_clock, plain
from citylines.errors import BadText, InvalidText, UnsoundPlan
from citylines.plans import check_plan, unsound
from citylines.readers import READERS
from citylines.riders import check_way
from citylines.words import clocks_of, numbers_just, spaced, spaced_or_none

DEEPEST_TEXT = 40
# How many words stand ahead of the routes of a part, and how many routes.
HEADS = {"there": 0, "walk": 1, "ride": 2, "by": 1}
ROUTES = {"there": 0, "walk": 1, "ride": 1, "by": 2}


def plan_text(plan):
    """The text of the plan."""
    check_plan(plan)
    return text_of_plan(plain(plan))


def text_of_plan(plan):
    """The same, of what is known to be a plan, in plain values."""
    _, city, lines, trips, blocks, duties, meets, promises, delays, spares, heard, remedies = plan
    rows = ["zones " + spaced(city[1]), "changes " + spaced(city[2])]
    rows.extend(["walks " + spaced(row) for row in city[3]])
    rows.extend(["drives " + spaced(row) for row in city[4]])
    rows.extend([line_row(line) for line in lines])
    rows.extend([spaced(["trip", line, "/"] + [clock_text(minute) for minute in told]) for _, line, told in trips])
    rows.extend([block_row(block) for block in blocks])
    rows.extend([duty_row(duty) for duty in duties])
    rows.extend([spaced(meet) for meet in meets])
    rows.extend(["promise " + spaced(promise) for promise in promises])
    rows.extend(["bounds " + spaced(row) for row in delays[0]])
    rows.append("budget " + str(delays[1]))
    if spares is not None:
        rows.append("spares " + spaced(spares))
    if heard:
        rows.append("heard " + spaced(heard))
    rows.extend([spaced(("remedy", position) + remedy) for position, remedy in remedies])
    return "\n".join(rows)


def line_row(line):
    """The row of a line."""
    _, stops, leasts, stands, apart = line
    return "line " + " / ".join([spaced(stops), spaced(leasts), spaced_or_none(stands), str(apart)])


def block_row(block):
    """The row of a block."""
    _, trips, turns, battery = block
    groups = [spaced(trips), spaced_or_none(turns)]
    if battery is not None:
        full, needs, rate = battery
        groups.extend([str(full), spaced(needs), str(rate)])
    return "block " + " / ".join(groups)


def duty_row(duty):
    """The row of a duty."""
    _, pieces, breaks = duty
    words = ["duty " + spaced(pieces[0])]
    for piece, part in zip(pieces[1:], breaks):
        words.extend([spaced(part), spaced(piece)])
    return " ".join(words)


class Rows:
    """The rows of a text, and the one that comes next."""

    def __init__(self, text):
        self.rows = [row.split(" ") for row in text.split("\n")]
        self.at = 0

    def is_next(self, word):
        """Whether a row with this first word comes next."""
        return self.at < len(self.rows) and self.rows[self.at][0] == word

    def take(self, word):
        """What the next row tells, which must be one with this first word."""
        reader = READERS[word]
        told = reader(self.rows[self.at][1:]) if self.is_next(word) else None
        if told is None:
            raise BadText(self.at + 1)
        self.at += 1
        return told

    def take_all(self, word):
        """The tuple of what all next rows with this first word tell."""
        found = []
        while self.is_next(word):
            found.append(self.take(word))
        return tuple(found)

    def take_many(self, word, many):
        """The tuple of what so many next rows tell, which must be some with this first word."""
        return tuple([self.take(word) for _ in range(many)])


def plan_of(text):
    """The plan as which the text is read."""
    check_text(text)
    plan = plan_read(Rows(text))
    word = unsound(plan)
    if word is not None:
        raise UnsoundPlan(word)
    return plan


def check_text(text):
    """Raise InvalidText unless it is a string."""
    if not isinstance(text, str):
        raise InvalidText(text)


def plan_read(rows):
    """What the rows are read as, sound or not."""
    zones, changes = rows.take("zones"), rows.take("changes")
    walks, drives = rows.take_many("walks", len(zones)), rows.take_many("drives", len(zones))
    lines, trips = rows.take_all("line"), rows.take_all("trip")
    parts = (rows.take_all("block"), rows.take_all("duty"), rows.take_all("meet"), rows.take_all("promise"))
    delays = (rows.take_many("bounds", len(trips)), rows.take("budget"))
    spares = rows.take("spares") if rows.is_next("spares") else None
    heard = rows.take("heard") if rows.is_next("heard") else ()
    remedies = rows.take_all("remedy")
    if rows.at < len(rows.rows):
        raise BadText(rows.at + 1)
    city = ("city", zones, changes, walks, drives)
    return ("plan", city, lines, trips) + parts + (delays, spares, heard, remedies)


def way_text(plan, way):
    """The text of a way of the plan."""
    check_plan(plan)
    check_way(plan, way)
    return text_of_way(plain(way))


def text_of_way(way):
    """The same, of what is known to be a way, in plain values."""
    stop, minute, route = way
    return " ".join([str(stop), clock_text(minute)] + route_words(route))


def route_words(route):
    """The list of the words of a route."""
    word, many = route[0], HEADS[route[0]]
    head = [clock_text(route[1])] if word == "by" else [str(number) for number in route[1:1 + many]]
    return [word] + head + [own for part in route[1 + many:] for own in route_words(part)]


def way_of(plan, text):
    """The way of the plan as which the text is read."""
    check_plan(plan)
    check_text(text)
    way = way_read(text)
    check_way(plan, way)
    return way


def way_read(text):
    """What the text is read as, a way of some plan or not."""
    words = text.split(" ")
    stop, found = numbers_just(words[:1], 1), route_from(words, 2, DEEPEST_TEXT)
    if stop is None or found is None or not is_clock(words[1]) or found[1] < len(words):
        raise BadText(1)
    return stop + (clock_minute(words[1]), found[0])


def route_from(words, at, deep):
    """The route that begins with the word there, at most so deep, and where the words behind it begin; or None."""
    if deep == 0 or at >= len(words) or words[at] not in HEADS:
        return None
    word = words[at]
    behind = at + 1 + HEADS[word]
    own = words[at + 1:behind]
    head = ()
    if HEADS[word] > 0:
        head = clocks_of(own) if word == "by" else numbers_just(own, HEADS[word])
    parts = []
    for _ in range(ROUTES[word]):
        found = route_from(words, behind, deep - 1)
        if found is None:
            return None
        parts.append(found[0])
        behind = found[1]
    return None if head is None else ((word,) + head + tuple(parts), behind)
