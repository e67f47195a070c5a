"""Promises of a plan, its delays, spares, and what is heard: whether any value is such a part."""

from citylines.basics import are_within, is_count, is_named, is_tuple, is_within, is_word, LAST_MINUTE
from citylines.trips import is_ride, sequence_of

MOST_PROMISES = 24
MOST_LATE = 60
MOST_BOUND = 9
MOST_BUDGET = 20
MOST_SPARES = 3


def are_promises_of(plan, value):
    """Whether any value is a tuple of promises, no two alike, of a plan whose parts ahead of them are right."""
    if not is_tuple(value, 0, MOST_PROMISES):
        return False
    if not all([is_promise_of(plan, promise) for promise in value]):
        return False
    return len(set(value)) == len(value)


def is_promise_of(plan, value):
    """Whether any value is a promise of a plan whose parts ahead of the promises are right."""
    trips, duties, meets = plan[3], plan[5], plan[6]
    if is_named(value, "meets", 2):
        return is_within(value[1], 0, len(meets) - 1)
    if is_named(value, "leaves", 4):
        return is_ride(trips, value[1], value[2]) and is_within(value[3], 0, MOST_LATE)
    if is_named(value, "ends", 3):
        return is_within(value[1], 0, len(trips) - 1) and is_within(value[2], 0, MOST_LATE)
    if not is_tuple(value, 3, 3) or not is_word(value[0], ("driven", "long")):
        return False
    return is_within(value[1], 0, len(duties) - 1) and is_within(value[2], 1, LAST_MINUTE)


def are_delays_of(trips, value):
    """Whether any value is a tuple of bounds for the hops of these trips, and a budget."""
    if not is_tuple(value, 2, 2):
        return False
    bounds, budget = value
    if not is_tuple(bounds, len(trips), len(trips)) or not is_within(budget, 0, MOST_BUDGET):
        return False
    return all([are_within(own, len(trip[2]), 0, MOST_BOUND) for own, trip in zip(bounds, trips)])


def are_spares(value):
    """Whether any value is None, or a tuple (number, late, access)."""
    if value is None:
        return True
    if not is_tuple(value, 3, 3):
        return False
    number, late, access = value
    return is_within(number, 0, MOST_SPARES) and is_within(late, 0, MOST_LATE) and is_within(access, 0, MOST_LATE)


def is_heard_of(trips, delays, value):
    """Whether any value is a tuple of what the first rides have taken longer, remedies not looked at."""
    sequence = sequence_of(trips)
    if not is_tuple(value, 0, len(sequence)) or not all([is_count(delay) for delay in value]):
        return False
    bounds, budget = delays
    if not all([delay <= bounds[trip][hop] for delay, (trip, hop) in zip(value, sequence)]):
        return False
    return sum(value) <= budget
