"""Fits: all travels of which, but for some that are lost, just the heard taps come."""

from citylines.errors import TooMany
from citylines.tickets import MOST_PASSAGES
from citylines.travels import taps_of_travel, true_of

MOST_LOST = 3
MOST_FITS = 400


class Fits:
    """Heard taps, and for each of them the travels that could begin or end with it, with both their taps."""

    def __init__(self, going, taps):
        rows = [(travel, taps_of_travel(going, travel)) for travel in travels_run(going)]
        self.taps = [tuple(tap) for tap in taps]
        # At most ten travels have at most twenty taps.
        self.lost = min(MOST_LOST, 2 * MOST_PASSAGES - len(self.taps))
        self.begins = [[row for row in rows if row[1][0] == tap] for tap in self.taps]
        self.ends = [[row for row in rows if row[1][1] == tap] for tap in self.taps]
        self.counted = {}


def travels_run(going):
    """The list of all travels of the plan that have a true passage."""
    hops = [len(trip[2]) for trip in going.plan[3]]
    travels = [(trip, first, last) for trip, first in going.times for last in range(first, hops[trip])]
    return [travel for travel in travels if true_of(going, travel) is not None]


def next_travels(fits, at, lost, since):
    """All travels that can come next, where so many taps are heard and lost: tuples (travel, at, lost, since) then."""
    found = []
    for travel, (begin, end) in fits.begins[at]:
        if begin[0] >= since:
            found.append((travel, at + 1, lost + 1, end[0]))
            if fits.taps[at + 1:at + 2] == [end]:
                found.append((travel, at + 2, lost, end[0]))
    for travel, (begin, end) in fits.ends[at]:
        if begin[0] >= since:
            found.append((travel, at + 1, lost + 1, end[0]))
    return [row for row in found if row[2] <= fits.lost]


def count_from(fits, at, lost, since):
    """How many rows of travels fit what is heard from there on."""
    if at == len(fits.taps):
        return 1
    key = (at, lost, since)
    if key not in fits.counted:
        rows = next_travels(fits, at, lost, since)
        fits.counted[key] = sum([count_from(fits, then, more, minute) for _, then, more, minute in rows])
    return fits.counted[key]


def rows_from(fits, at, lost, since):
    """The list of these rows of travels."""
    if at == len(fits.taps):
        return [[]]
    found = []
    for travel, then, more, minute in next_travels(fits, at, lost, since):
        # Where nothing fits any more no way on is looked for.
        if count_from(fits, then, more, minute) > 0:
            found.extend([[travel] + row for row in rows_from(fits, then, more, minute)])
    return found


def all_fits(going, taps):
    """The sorted list of all travels that fit the heard taps."""
    fits = Fits(going, taps)
    # Of unlike ways through the taps come unlike travels, as the taps of travels that go are all unlike.
    if count_from(fits, 0, 0, 0) > MOST_FITS:
        raise TooMany("fits", MOST_FITS)
    return sorted(rows_from(fits, 0, 0, 0))
