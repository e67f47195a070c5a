"""What the remedies of a plan leave: which rides are run, which waits hold, what is gone; and what can be put now."""

from citylines.basics import is_tuple, is_within, is_word
from citylines.blocks import block_place
from citylines.duties import rides_of
from citylines.meets import LONGEST_WAIT
from citylines.promises import MOST_LATE
from citylines.trips import is_hop, sequence_of

MOST_REMEDIES = 8
ON_MEETS = ("wait", "free")
ON_TRIPS = ("spare", "drop", "cut")


def run_hops_of(trips, remedies):
    """The list that has for each trip how many of its first hops are run."""
    hops = [len(trip[2]) for trip in trips]
    for _, remedy in remedies:
        if remedy[0] == "drop":
            hops[remedy[1]] = 0
        if remedy[0] == "cut":
            hops[remedy[1]] = min(hops[remedy[1]], remedy[2] + 1)
    return hops


def waits_of(meets, hops, remedies):
    """The list that has for each meet the wait that it has behind the remedies, None for a gone one."""
    waits = [meet[5] if are_both_run(meet, hops) else None for meet in meets]
    for _, remedy in remedies:
        if remedy[0] == "free":
            waits[remedy[1]] = None
        if remedy[0] == "wait" and waits[remedy[1]] is not None:
            waits[remedy[1]] = remedy[2]
    return waits


def are_both_run(meet, hops):
    """Whether both rides of the meet are run."""
    _, feeder, behind, taker, ahead, _, _ = meet
    return behind < hops[feeder] and ahead < hops[taker]


def access_of(trip, remedies):
    """The least access of the remedies that have a vehicle ready for the trip, None without one."""
    found = [remedy[2] for _, remedy in remedies if remedy[0] == "spare" and remedy[1] == trip]
    return min(found) if found else None


def is_gone(plan, hops, waits, promise):
    """Whether the promise is gone, where so many hops are run, and these waits are left."""
    trips, duties = plan[3], plan[5]
    word, what = promise[0], promise[1]
    if word == "meets":
        return waits[what] is None
    if word == "leaves":
        return promise[2] >= hops[what]
    if word == "ends":
        return hops[what] < len(trips[what][2])
    return not any([hop < hops[trip] for trip, hop in rides_of(duties[what])])


def are_remedies_of(plan, value):
    """Whether any value is a tuple of remedies, of a plan whose other parts are right."""
    heard = plan[10]
    if not is_tuple(value, 0, MOST_REMEDIES):
        return False
    least = 0
    for at, row in enumerate(value):
        if not is_tuple(row, 2, 2) or not is_within(row[0], least, len(heard)):
            return False
        if not can_be_put(plan, value[:at], row[0], row[1]):
            return False
        least = row[0]
    hops = run_hops_of(plan[3], value)
    return all([delay == 0 or hop < hops[trip] for delay, (trip, hop) in zip(heard, sequence_of(plan[3]))])


def can_be_put(plan, ahead, many, value):
    """Whether any value is a remedy that can be put behind the ones ahead, so many rides being heard."""
    if not is_remedy_form(plan, value):
        return False
    trips, meets = plan[3], plan[6]
    where = {ride: at for at, ride in enumerate(sequence_of(trips))}
    hops = run_hops_of(trips, ahead)
    word, what = value[0], value[1]
    if word in ON_MEETS:
        _, _, _, taker, hop, _, _ = meets[what]
        return waits_of(meets, hops, ahead)[what] is not None and where[(taker, hop)] >= many
    if word == "spare":
        return block_place(plan[4], what)[1] > 0 and hops[what] > 0 and where[(what, 0)] >= many
    first = value[2] + 1 if word == "cut" else 0
    # Of a trip's rides the first one is the first one in the sequence, so the others are still to leave, too.
    if first >= hops[what] or where[(what, first)] < many:
        return False
    return is_last_of_block(plan[4], hops, what) and are_last_of_duties(plan[5], hops, what, first)


def is_remedy_form(plan, value):
    """Whether any value is a tuple in the form of a remedy of this plan's meets and trips."""
    trips, meets = plan[3], plan[6]
    if not is_tuple(value, 2, 3) or not is_word(value[0], ON_MEETS + ON_TRIPS):
        return False
    word, what = value[0], value[1]
    if len(value) != (2 if word in ("free", "drop") else 3):
        return False
    if not is_within(what, 0, len(meets if word in ON_MEETS else trips) - 1):
        return False
    if word == "cut":
        return is_hop(trips[what], value[2])
    return len(value) == 2 or is_within(value[2], 0, LONGEST_WAIT if word == "wait" else MOST_LATE)


def is_last_of_block(blocks, hops, trip):
    """Whether no ride of a trip behind it in its block is run."""
    position, place = block_place(blocks, trip)
    return not any([hops[other] > 0 for other in blocks[position][1][place + 1:]])


def are_last_of_duties(duties, hops, trip, first):
    """Whether each piece with a ride of the trip from this hop on that is run is the last one that is run."""
    for _, pieces, _ in duties:
        run = [at for at, (own, begin, _) in enumerate(pieces) if begin < hops[own]]
        asked = [at for at in run if pieces[at][0] == trip and pieces[at][2] >= first]
        if asked and asked != run[-1:]:
            return False
    return True
