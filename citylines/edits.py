"""Edits: plans, tickets and passages as deeds change them."""

from citylines.errors import InvalidPassages, InvalidPosition, InvalidRide, InvalidTickets, TooMany, UnsoundPlan
from citylines.plans import unsound
from citylines.remedies import after, heard_more
from citylines.tickets import are_passages, are_tickets, is_passage, is_ticket, MOST_PASSAGES, MOST_TICKETS
from citylines.trips import is_ride

# Each edit takes what is kept, and what the parts of the deed tell behind its name.


def sound(plan):
    """The plan: UnsoundPlan unless it is a sound one."""
    word = unsound(plan)
    if word is not None:
        raise UnsoundPlan(word)
    return plan


def check_position(rows, position):
    """Raise InvalidPosition unless there is a row at this position."""
    if position >= len(rows):
        raise InvalidPosition(position)


def put_at(rows, position, row):
    """The rows, a tuple, with another one at this position."""
    return rows[:position] + (row,) + rows[position + 1:]


def budget(plan, told):
    """The plan with this budget."""
    return sound(plan[:8] + ((plan[8][0], told[0]),) + plan[9:])


def bound(plan, told):
    """The plan with this bound of the ride."""
    trip, hop, most = told
    if not is_ride(plan[3], trip, hop):
        raise InvalidRide((trip, hop))
    bounds, own = plan[8]
    return sound(plan[:8] + ((put_at(bounds, trip, put_at(bounds[trip], hop, most)), own),) + plan[9:])


def spares(plan, told):
    """The plan with these spares, or without."""
    return sound(plan[:9] + (None if told == ["-"] else tuple(told),) + plan[10:])


def told_trip(plan, told):
    """The plan with the trip told to leave at these minutes."""
    position, minutes = told
    check_position(plan[3], position)
    return sound(put_at(plan, 3, put_at(plan[3], position, plan[3][position][:2] + (minutes,))))


def meet(plan, told):
    """The plan with one meet more."""
    return sound(put_at(plan, 6, plan[6] + (("meet",) + tuple(told),)))


def wait(plan, told):
    """The plan with this wait and way of the meet."""
    position, minutes, way = told
    check_position(plan[6], position)
    return sound(put_at(plan, 6, put_at(plan[6], position, plan[6][position][:5] + (minutes, way))))


def part(plan, told):
    """The plan without the meet, its promise and its remedies."""
    position = told[0]
    check_position(plan[6], position)
    promises = [without_meet(row, position) for row in plan[7] if row != ("meets", position)]
    remedies = [row for row in plan[11] if row[1][0] not in ("wait", "free") or row[1][1] != position]
    meets = plan[6][:position] + plan[6][position + 1:]
    behind = tuple([(row[0], without_meet(row[1], position)) for row in remedies])
    return sound(plan[:6] + (meets, tuple(promises)) + plan[8:11] + (behind,))


def without_meet(row, position):
    """The promise or the remedy, where the meets behind this position are called one less."""
    if row[0] not in ("meets", "wait", "free") or row[1] < position:
        return row
    return (row[0], row[1] - 1) + row[2:]


def promise(plan, told):
    """The plan with one promise more."""
    return sound(put_at(plan, 7, plan[7] + (tuple(told),)))


def release(plan, told):
    """The plan without the promise."""
    position = told[0]
    check_position(plan[7], position)
    return sound(put_at(plan, 7, plan[7][:position] + plan[7][position + 1:]))


def hear(plan, told):
    """The plan with more heard."""
    return heard_more(plan, list(told[0]))


def remedy(plan, told):
    """The plan after the remedy."""
    return after(plan, tuple(told))


def ticket(rows, told):
    """The tickets with one more."""
    more = rows + (("ticket",) + tuple(told),)
    if not all([is_ticket(row) for row in more]):
        raise InvalidTickets(list(more))
    if not are_tickets(more):
        raise TooMany("tickets", MOST_TICKETS)
    return more


def passage(rows, told):
    """The passages with one more."""
    more = rows + (tuple(told),)
    if not all([is_passage(row) for row in more]):
        raise InvalidPassages(list(more))
    if not are_passages(more):
        raise TooMany("passages", MOST_PASSAGES)
    return more


def strike(rows, told):
    """The tickets, or the passages, without the one at this position."""
    position = told[0]
    check_position(rows, position)
    return rows[:position] + rows[position + 1:]


EDITS = {
    "budget": budget, "bound": bound, "spares": spares, "told": told_trip, "meet": meet, "wait": wait, "part": part,
    "promise": promise, "release": release, "hear": hear, "remedy": remedy, "ticket": ticket, "passage": passage,
    "strike": strike,
}


def edited(word, thing, told):
    """What becomes of the thing by a deed of this word."""
    edit = EDITS[word]
    return edit(thing, told)
