"""Taps and bills: travels and their passages, what taps can tell of them, and what riders pay."""

from citylines.basics import is_list, is_named, is_tuple, is_within, is_word
from citylines.cities import is_stop
from citylines.days import chart_for
from citylines.errors import InvalidAccount, InvalidTaps, InvalidTravels, Missed
from citylines.fits import all_fits
from citylines.lots import least_prices, Lots
from citylines.plans import check_plan
from citylines.tickets import are_tickets, check_tickets, LAST_TAP, MOST_PASSAGES
from citylines.travels import are_travels_of, first_stuck, Going, is_travel_of, place_free, taps_of_travel, told_of
from citylines.travels import true_of

MOST_TAPS = 20
MOST_RIDERS = 5


def is_travel(plan, value):
    """Whether any value is a travel of the plan."""
    check_plan(plan)
    return is_travel_of(plan, value)


def check_travel(plan, travel):
    """Raise InvalidTravels unless it is a travel of what is known to be a plan."""
    if not is_travel_of(plan, travel):
        raise InvalidTravels(travel)


def told_passage(plan, travel):
    """The told passage of the travel."""
    check_plan(plan)
    check_travel(plan, travel)
    return told_of(plan, travel)


def true_passage(plan, course, travel):
    """The true passage of the travel in the course, None without one."""
    chart = chart_for(plan, course)
    check_travel(plan, travel)
    return true_of(Going(chart, course), travel)


def going_by(plan, course, travels):
    """The course, in which one goes by these travels or not: InvalidPlan, InvalidCourse, InvalidTravels."""
    chart = chart_for(plan, course)
    if not are_travels_of(plan, travels):
        raise InvalidTravels(travels)
    return Going(chart, course)


def check_go(going, rider, travels):
    """Raise Missed unless the travels of this rider go."""
    place = first_stuck(going, travels)
    if place is not None:
        raise Missed(rider, place)


def do_go(plan, course, travels):
    """Whether the travels go in the course."""
    return first_stuck(going_by(plan, course, travels), travels) is None


def taps_of(plan, course, travels):
    """The list of the taps of travels that go in the course."""
    going = going_by(plan, course, travels)
    check_go(going, 0, travels)
    return [tap for travel in travels for tap in taps_of_travel(going, travel)]


def first_free(plan, course, travels):
    """The place of the first free travel, None without one."""
    going = going_by(plan, course, travels)
    check_go(going, 0, travels)
    return place_free(going, travels)


def are_taps(plan, value):
    """Whether any value is a list of at most 20 taps that are heard, each at a stop of the plan's city."""
    if not is_list(value, 0, MOST_TAPS) or not all([is_tap(plan, tap) for tap in value]):
        return False
    return all([value[at][0] <= value[at + 1][0] for at in range(len(value) - 1)])


def is_tap(plan, value):
    """Whether any value is a tap at a stop of the plan's city."""
    if not is_tuple(value, 3, 3):
        return False
    minute, stop, word = value
    return is_within(minute, 0, LAST_TAP) and is_stop(plan[1], stop) and is_word(word, ("in", "out"))


def check_taps(plan, taps):
    """Raise InvalidTaps unless they are taps of what is known to be a plan."""
    if not are_taps(plan, taps):
        raise InvalidTaps(taps)


def fitting(plan, course, taps):
    """The sorted list of all travels that fit the heard taps."""
    chart = chart_for(plan, course)
    check_taps(plan, taps)
    return all_fits(Going(chart, course), taps)


def charge(plan, course, tickets, taps):
    """The least of the cheapest prices of all travels that fit the heard taps, None if none has one."""
    chart = chart_for(plan, course)
    check_tickets(tickets)
    check_taps(plan, taps)
    going = Going(chart, course)
    # Travels of the same passages are priced once.
    lists = {tuple(sorted([true_of(going, travel) for travel in travels])): True for travels in all_fits(going, taps)}
    return least_of([cheapest_price(tickets, passages) for passages in lists])


def cheapest_price(tickets, passages):
    """The cheapest price of the passages, None without a cover."""
    return least_prices(Lots(tickets, passages))[-1][0]


def least_of(prices):
    """The least of the prices, None if each of them is None."""
    return min([price for price in prices if price is not None], default=None)


def is_account(plan, value):
    """Whether any value is an account of the plan."""
    check_plan(plan)
    return is_account_of(plan, value)


def is_account_of(plan, value):
    """The same, of what is known to be a plan."""
    if not is_named(value, "account", 3):
        return False
    _, tickets, riders = value
    if not isinstance(tickets, tuple) or not are_tickets(tickets) or not is_tuple(riders, 1, MOST_RIDERS):
        return False
    if not all([isinstance(travels, tuple) and are_travels_of(plan, travels) for travels in riders]):
        return False
    return sum([len(travels) for travels in riders]) <= MOST_PASSAGES


def going_of(plan, course, account):
    """The course, in which all riders of the account go: InvalidPlan, InvalidCourse, InvalidAccount, Missed."""
    chart = chart_for(plan, course)
    if not is_account_of(plan, account):
        raise InvalidAccount(account)
    going = Going(chart, course)
    for rider, travels in enumerate(account[2]):
        check_go(going, rider, travels)
    return going


def bill_of(going, tickets, riders):
    """The lesser one of the prices of all told and all true passages, None if there is no cover."""
    travels = [travel for own in riders for travel in own]
    told = cheapest_price(tickets, [told_of(going.plan, travel) for travel in travels])
    true = cheapest_price(tickets, [true_of(going, travel) for travel in travels])
    return least_of([told, true])


def bill(plan, course, account):
    """The bill of the account in the course, None if there is no cover."""
    return bill_of(going_of(plan, course, account), account[1], account[2])


def refund(plan, course, account):
    """What the bill is more than that without the free travels, None without a bill."""
    going = going_of(plan, course, account)
    _, tickets, riders = account
    whole = bill_of(going, tickets, riders)
    if whole is None:
        return None
    return whole - bill_of(going, tickets, [paid_for(going, travels) for travels in riders])


def paid_for(going, travels):
    """The travels of one rider that are not free: those ahead of the first free one."""
    place = place_free(going, travels)
    return travels if place is None else travels[:place]
