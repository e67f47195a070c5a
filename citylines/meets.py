"""Meets, and the feeds of a taker: who asks it to wait, and when it leaves."""

from citylines.basics import is_count, is_list, is_named, is_tuple, is_within, is_word
from citylines.cities import change_of
from citylines.errors import InvalidDeparture, InvalidFeed, InvalidFeeds, InvalidMinute
from citylines.trips import check_trips, is_ride, stop_ahead, stop_behind, told_arrival, told_departure

MOST_MEETS = 24
LONGEST_WAIT = 60
WAYS = ("blind", "news")


def is_meet(city, lines, trips, value):
    """Whether any value is a meet of these trips."""
    check_trips(city, lines, trips)
    return is_meet_of(city, lines, trips, value)


def are_meets(city, lines, trips, value):
    """Whether any value is a tuple of at most 24 meets, no two of the same two rides."""
    check_trips(city, lines, trips)
    return are_meets_of(city, lines, trips, value)


def are_meets_of(city, lines, trips, value):
    """Whether any value is a tuple of meets of what are known to be trips, no two of the same two rides."""
    if not is_tuple(value, 0, MOST_MEETS):
        return False
    if not all([is_meet_of(city, lines, trips, meet) for meet in value]):
        return False
    return len({meet[1:5] for meet in value}) == len(value)


def is_meet_of(city, lines, trips, value):
    """Whether any value is a meet of what are known to be trips."""
    if not is_named(value, "meet", 7):
        return False
    _, feeder, behind, taker, ahead, wait, way = value
    if not is_ride(trips, feeder, behind) or not is_ride(trips, taker, ahead) or feeder == taker:
        return False
    if not is_within(wait, 0, LONGEST_WAIT) or not is_word(way, WAYS):
        return False
    change = change_of(city, stop_behind(lines, trips[feeder], behind), stop_ahead(lines, trips[taker], ahead))
    return told_arrival(lines, trips[feeder], behind) + change <= told_departure(trips[taker], ahead)


def is_feed(value):
    """Whether any value is a feed."""
    if not is_tuple(value, 6, 6):
        return False
    g, f, n, c, till, way = value
    if not all([is_count(part) for part in (g, f, n, c, till)]):
        return False
    return n >= 1 and f >= g + n and is_word(way, WAYS)


def check_feed(feed):
    """Raise InvalidFeed unless it is a feed."""
    if not is_feed(feed):
        raise InvalidFeed(feed)


def check_minute(minute):
    """Raise InvalidMinute unless it is a COUNT, however great."""
    if not is_count(minute):
        raise InvalidMinute(minute)


def check_feeds(minute, feeds):
    """Raise the error of the first one that is not as the interface wants it."""
    check_minute(minute)
    if not is_list(feeds, 0, MOST_MEETS) or not all([is_feed(feed) for feed in feeds]):
        raise InvalidFeeds(feeds)


def soonest(feed, minute):
    """The soonest minute at which the feeder's riders can be at the taker, as known at this minute."""
    check_feed(feed)
    check_minute(minute)
    return soonest_at(feed, minute)


def soonest_at(feed, minute):
    """The soonest minute, of what is known to be right."""
    g, f, n, c, _, _ = feed
    return f + c if g <= minute else minute + 1 + n + c


def asks(feed, minute):
    """Whether it asks the taker to wait at the minute."""
    check_feed(feed)
    check_minute(minute)
    _, f, _, c, till, way = feed
    if minute >= till or f + c <= minute:
        return False
    return way == "blind" or soonest_at(feed, minute) <= till


def quiet(feed):
    """Its first quiet minute."""
    check_feed(feed)
    return quiet_of(feed)


def quiet_of(feed):
    """The first quiet minute of what is known to be a feed."""
    g, f, n, c, till, way = feed
    if way == "blind":
        return int(min(f + c, till))
    if f + c <= till:
        return f + c
    # Too late for till: it asks while, not having left, it could still come by till.
    return int(min(g, max(till - n - c, 0)))


def is_made(feed, departure):
    """Whether it is made by the departure."""
    check_feed(feed)
    if not is_count(departure):
        raise InvalidDeparture(departure)
    return comes_by(feed, departure)


def comes_by(feed, departure):
    """Whether its riders are at the taker by the departure, of what is known to be right."""
    _, f, _, c, _, _ = feed
    return f + c <= departure


def leaves(minute, feeds):
    """The minute at which a taker leaves that could leave at the told one."""
    check_feeds(minute, feeds)
    return leaves_at(minute, feeds)


def leaves_at(minute, feeds):
    """The minute at which it leaves, of what is known to be right."""
    # A feed asks at just the minutes ahead of its quiet one, so no minute has to be tried.
    return int(max([minute] + [quiet_of(feed) for feed in feeds]))


def in_vain(minute, feeds):
    """The rising list of the positions of the feeds for which the taker has waited in vain."""
    check_feeds(minute, feeds)
    departure = leaves_at(minute, feeds)
    vain = []
    for position, feed in enumerate(feeds):
        if quiet_of(feed) > minute and not comes_by(feed, departure):
            vain.append(position)
    return vain
