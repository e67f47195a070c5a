"""The tests' own covers: all of them gone through, each ticket minute by minute."""

import itertools


def covers(ticket, rows):
    """Whether the ticket covers these passages, minute by minute."""
    _, _, minutes, zones, persons = ticket
    first = min(begin for begin, _, _ in rows)
    if not all(set(row[2]) <= set(zones) and row[0] - first < minutes for row in rows):
        return False
    last = max(end for _, end, _ in rows)
    return all(len([row for row in rows if row[0] <= minute < row[1]]) <= persons for minute in range(first, last))


def partings(places):
    """All ways to part the places in lots."""
    if not places:
        yield []
        return
    for many in range(len(places)):
        for others in itertools.combinations(places[1:], many):
            lot = (places[0], *others)
            for rest in partings([place for place in places if place not in lot]):
                yield [lot] + rest


def all_covers(tickets, passages):
    """All covers, lots in the sequence of their least places."""
    found = []
    for lots in partings(list(range(len(passages)))):
        kinds = [
            [kind for kind, ticket in enumerate(tickets) if covers(ticket, [passages[place] for place in lot])] for lot in lots
        ]
        found.extend(list(zip(chosen, lots)) for chosen in itertools.product(*kinds))
    return found


def price_of(tickets, cover):
    return sum(tickets[kind][1] for kind, _ in cover)


def least(tickets, passages):
    return min((price_of(tickets, cover) for cover in all_covers(tickets, passages)), default=None)
