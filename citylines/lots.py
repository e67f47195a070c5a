"""Lots of passages: which tickets cover them, and what they cost at least.

Here a lot is a number, the passages counted as they begin, one behind another: the first one counts 1, then 2, then 4.
"""

from citylines.basics import plain


class Lots:
    """All lots of some passages, and for each of them what the cheapest ticket costs that covers it."""

    def __init__(self, tickets, passages):
        self.tickets = plain(list(tickets))
        begins = sorted([(int(row[0]), at) for at, row in enumerate(passages)])
        self.places = [at for _, at in begins]
        self.rows = [plain(passages[at]) for at in self.places]
        # Of each lot: its number by places, its first and last passage, and how many are under way at once.
        self.numbers = [0]
        self.firsts = [0]
        self.lasts = [0]
        self.most = [0]
        for at in range(len(self.rows)):
            add_lots(self, at)
        self.insides = [inside_of(self, ticket) for ticket in self.tickets]
        self.kinds = [cheapest_kind(self, lot) for lot in range(len(self.numbers))]


def add_lots(lots, at):
    """Add all lots of which the passage there is the last one."""
    begin = lots.rows[at][0]
    under_way = sum([1 << own for own in range(at) if lots.rows[own][1] > begin])
    for lot in range(1 << at):
        lots.numbers.append(lots.numbers[lot] + (1 << lots.places[at]))
        lots.firsts.append(lots.firsts[lot] if lot > 0 else at)
        lots.lasts.append(at)
        # Most are under way at once at a minute at which some passage begins.
        lots.most.append(max(lots.most[lot], size_of(lot & under_way) + 1))


def size_of(lot):
    """How many passages the lot has."""
    many, left = 0, lot
    while left > 0:
        # One of them less each time.
        left = left & (left - 1)
        many += 1
    return many


def inside_of(lots, ticket):
    """The lot of all passages whose zones are the ticket's."""
    inside = [at for at, row in enumerate(lots.rows) if all([zone in ticket[3] for zone in row[2]])]
    return sum([1 << at for at in inside])


def is_covered(lots, kind, lot):
    """Whether the ticket of this kind covers the lot, which is not empty."""
    _, _, minutes, _, persons = lots.tickets[kind]
    if lot & lots.insides[kind] != lot or lots.most[lot] > persons:
        return False
    return lots.rows[lots.lasts[lot]][0] - lots.rows[lots.firsts[lot]][0] < minutes


def cheapest_kind(lots, lot):
    """The kind of the cheapest ticket that covers the lot, None without one, and of the empty lot."""
    if lot == 0:
        return None
    covering = [(ticket[1], kind) for kind, ticket in enumerate(lots.tickets) if is_covered(lots, kind, lot)]
    return min(covering)[1] if covering else None


def price_of(lots, lot):
    """What the cheapest ticket costs that covers the lot, None without one."""
    kind = lots.kinds[lot]
    return None if kind is None else lots.tickets[kind][1]


def lots_within(lot):
    """The list of all lots within this one, from itself down to the empty one."""
    found = [lot]
    while found[-1] > 0:
        found.append((found[-1] - 1) & lot)
    return found


def ways_to_begin(lots, lot):
    """The list of all (part, rest) of a lot that is not empty, the part with its first one, and with a ticket."""
    rests = lots_within(lot - (1 << lots.firsts[lot]))
    return [(lot - rest, rest) for rest in rests if lots.kinds[lot - rest] is not None]


def least_prices(lots):
    """For each lot a tuple of its cheapest price and of the part that its first one's ticket covers then.

    Both are None without a cover.
    """
    found = [(0, 0)]
    for lot in range(1, len(lots.numbers)):
        pairs = [(part, found[rest][0]) for part, rest in ways_to_begin(lots, lot)]
        prices = [(price + price_of(lots, part), part) for part, price in pairs if price is not None]
        found.append(min(prices) if prices else (None, None))
    return found


def lot_of_places(lots, places):
    """The lot of these places."""
    return sum([1 << lots.places.index(place) for place in places])


def places_of_lot(lots, lot):
    """The rising tuple of the places of the lot."""
    return tuple(sorted([place for at, place in enumerate(lots.places) if lot & (1 << at) > 0]))
