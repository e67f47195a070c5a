"""Tickets and passages: covers, cheapest prices, price tables, and what is charged passage by passage."""

from citylines.basics import is_list, is_named, is_tuple, is_within
from citylines.cities import LAST_ZONE
from citylines.errors import InvalidPassages, InvalidTickets
from citylines.lots import is_covered, least_prices, lot_of_places, Lots, places_of_lot, price_of, ways_to_begin

MOST_TICKETS = 8
MOST_PASSAGES = 10
DEAREST = 9999
MOST_MINUTES = 11000
MOST_PERSONS = 5
LAST_TAP = 9999
DEAREST_TABLE = 99999


def is_ticket(value):
    """Whether any value is a ticket."""
    if not is_named(value, "ticket", 5):
        return False
    _, price, minutes, zones, persons = value
    if not is_within(price, 1, DEAREST) or not is_within(minutes, 1, MOST_MINUTES):
        return False
    return are_zones(zones) and is_within(persons, 1, MOST_PERSONS)


def are_zones(value):
    """Whether any value is a rising tuple of zones."""
    if not is_tuple(value, 1, LAST_ZONE) or not all([is_within(zone, 1, LAST_ZONE) for zone in value]):
        return False
    return all([value[at] < value[at + 1] for at in range(len(value) - 1)])


def is_passage(value):
    """Whether any value is a passage."""
    if not is_tuple(value, 3, 3):
        return False
    begin, end, zones = value
    return is_within(begin, 0, LAST_TAP) and is_within(end, 0, LAST_TAP) and begin < end and are_zones(zones)


def are_tickets(value):
    """Whether any value is a list of 1 to 8 tickets."""
    return is_list(value, 1, MOST_TICKETS) and all([is_ticket(ticket) for ticket in value])


def are_passages(value):
    """Whether any value is a list of at most 10 passages."""
    return is_list(value, 0, MOST_PASSAGES) and all([is_passage(passage) for passage in value])


def check_tickets(tickets):
    """Raise InvalidTickets unless they are tickets."""
    if not are_tickets(tickets):
        raise InvalidTickets(tickets)


def lots_of(tickets, passages):
    """The lots of the passages: InvalidTickets, InvalidPassages."""
    check_tickets(tickets)
    if not are_passages(passages):
        raise InvalidPassages(passages)
    return Lots(tickets, passages)


def is_cover(tickets, passages, value):
    """Whether any value is a cover of the passages."""
    lots = lots_of(tickets, passages)
    return is_cover_of(lots, value)


def is_cover_of(lots, value):
    """Whether any value is a cover of all passages of these lots."""
    many = len(lots.rows)
    if not is_list(value, 0, many) or not all([is_cover_row(lots, row) for row in value]):
        return False
    return sorted([place for _, places in value for place in places]) == list(range(many))


def is_cover_row(lots, value):
    """Whether any value is a tuple of a kind and of a rising tuple of places that this ticket covers."""
    if not is_tuple(value, 2, 2):
        return False
    kind, places = value
    many = len(lots.rows)
    if not is_within(kind, 0, len(lots.tickets) - 1) or not is_tuple(places, 1, many):
        return False
    if not all([is_within(place, 0, many - 1) for place in places]):
        return False
    if not all([places[at] < places[at + 1] for at in range(len(places) - 1)]):
        return False
    return is_covered(lots, kind, lot_of_places(lots, places))


def cover_price(tickets, cover):
    """The price of a cover."""
    return sum([tickets[kind][1] for kind, _ in cover])


def cheapest(tickets, passages):
    """The cheapest price of the passages, None without a cover."""
    return least_prices(lots_of(tickets, passages))[-1][0]


def cheapest_cover(tickets, passages):
    """A cover of the cheapest price, None without one."""
    lots = lots_of(tickets, passages)
    found = least_prices(lots)
    left = len(found) - 1
    if found[left][0] is None:
        return None
    cover = []
    while left > 0:
        part = found[left][1]
        cover.append((lots.kinds[part], places_of_lot(lots, part)))
        left = left - part
    return cover


def price_table(tickets, passages):
    """The least prices: for each lot, by its number, its cheapest price, None without a cover."""
    lots = lots_of(tickets, passages)
    table = [0 for _ in lots.numbers]
    for number, (price, _) in zip(lots.numbers, least_prices(lots)):
        table[number] = price
    return table


def is_price_table(tickets, passages, value):
    """Whether any value is a price table of the passages."""
    lots = lots_of(tickets, passages)
    return is_price_table_of(lots, value)


def is_price_table_of(lots, value):
    """Whether any value is a price table of all passages of these lots."""
    size = len(lots.numbers)
    if not is_list(value, size, size) or not all([is_price(price) for price in value]):
        return False
    prices = [value[number] for number in lots.numbers]
    if prices[0] != 0:
        return False
    return all([is_least(lots, prices, lot) for lot in range(1, size)])


def is_price(value):
    """Whether any value is one of a price table."""
    return value is None or is_within(value, 0, DEAREST_TABLE)


def is_least(lots, prices, lot):
    """Whether the lot's price is at most that of each ticket for its first one, with what is left."""
    pairs = [(prices[rest], price_of(lots, part)) for part, rest in ways_to_begin(lots, lot)]
    sums = [rest + price for rest, price in pairs if rest is not None]
    return not sums or (prices[lot] is not None and prices[lot] <= min(sums))


def charges(tickets, passages):
    """The list of what is charged at each passage, None if the passages have no cover."""
    table = price_table(tickets, passages)
    if table[-1] is None:
        return None
    # The lot of all places up to one has the number just below that of the next place alone.
    return [table[(2 << at) - 1] - table[(1 << at) - 1] for at in range(len(passages))]
