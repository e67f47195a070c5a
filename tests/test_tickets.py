"""[91] to [95]: tickets, passages, covers, cheapest prices, price tables, what is charged."""

import itertools
import random
import unittest

from citylines.errors import InvalidPassages, InvalidTickets
from citylines.tickets import (
    charges, cheapest, cheapest_cover, is_cover, is_passage, is_price_table, is_ticket, price_table,
)
from covering import all_covers, covers, least, partings, price_of
from helpers import Case, Few, NO_INTEGERS, OTHERS, is_plain, put

# Values of all kinds, but for lists and tuples of nothing.
FULL = [value for value in OTHERS if type(value) not in (list, tuple) or len(value) > 0]
HOUR, TWO, DAY = ("ticket", 300, 60, (1, 2), 1), ("ticket", 500, 60, (1, 2), 2), ("ticket", 700, 1440, (1, 2), 1)
THERE, BACK = (0, 20, (1, 2)), (70, 90, (1,))


def some(number, most=5, kinds=3):
    """Tickets and passages, as they happen to be; short ones, so that the minutes can be gone through."""
    rng = random.Random(number)
    zones = [(1,), (2,), (1, 2), (1, 2), (1, 2, 3)]
    tickets = [
        ("ticket", rng.randint(1, 9) * 10 + rng.randint(0, 2), rng.choice([5, 9, 20, 60]), rng.choice(zones[:4]), rng.choice([1, 1, 2, 3]))
        for _ in range(rng.randint(1, kinds))
    ]
    if number % 3:
        tickets.append(("ticket", rng.randint(3, 9) * 10, rng.choice([5, 9, 20]), (1, 2, 3), 1))
    passages = []
    for _ in range(rng.randint(0, most)):
        begin = rng.choice([0, 0, 3, 5, 8, 9, 20, 25])
        passages.append((begin, begin + rng.randint(1, 9), rng.choice(zones)))
    return tickets, passages


def lot_of(number):
    return [place for place in range(10) if number >> place & 1]


class Forms(Case):
    def test_tickets_at_their_bounds(self):
        self.assert_yes(is_ticket, HOUR)
        bounds = {1: (1, 9999), 2: (1, 11000), 4: (1, 5)}
        for at, (first, last) in bounds.items():
            for value, told in ((first, True), (last, True), (first - 1, False), (last + 1, False), (-1, False), (Few.ONE, True)):
                self.assertIs(is_ticket(put(HOUR, (at,), value)), told)
            for value in NO_INTEGERS:
                self.assert_no(is_ticket, put(HOUR, (at,), value))

    def test_passages_at_their_bounds(self):
        self.assert_yes(is_passage, THERE)
        for begin, end, told in (
            (0, 1, True), (9998, 9999, True), (0, 9999, True), (9999, 9999, False), (9999, 10000, False), (5, 5, False), (6, 5, False),
            (-1, 5, False), (9998, 10000, False),
        ):
            self.assertIs(is_passage((begin, end, (1,))), told)
        for value in NO_INTEGERS:
            self.assert_no(is_passage, (value, 20, (1,)))
            self.assert_no(is_passage, (0, value, (1,)))
        self.assert_no(is_passage, (False, True, (1,)))

    def test_zones(self):
        for zones, told in (
            ((1,), True), ((4,), True), ((1, 2, 3, 4), True), ((2, 4), True), ((), False), ((0,), False), ((5,), False), ((2, 1), False),
            ((1, 1), False), ((0, 1), False), ((1, 5), False), ((0, 2, 3), False), ((1, 2, 3, 4, 5), False), ([1], False), ((True,), False), ((1, 2, 2), False), ((Few.ONE, Few.TWO), True),
        ):
            self.assertIs(is_ticket(put(HOUR, (3,), zones)), told)
            self.assertIs(is_passage((0, 20, zones)), told)
        for value in OTHERS:
            self.assert_no(is_ticket, put(HOUR, (3,), value))
            self.assert_no(is_passage, (0, 20, value))
            if type(value) is not int or value != 1:
                self.assert_no(is_ticket, put(HOUR, (3,), (value,)))

    def test_values_of_all_kinds(self):
        for value in OTHERS + [list(HOUR), HOUR + (1,), HOUR[:-1], ("Ticket",) + HOUR[1:], ("ticket",)]:
            self.assert_no(is_ticket, value)
            self.assert_error(InvalidTickets, [(value,)], cheapest, (value,), [])
        for value in OTHERS + [list(THERE), THERE + (1,), THERE[:-1]]:
            self.assert_no(is_passage, value)
            self.assert_error(InvalidPassages, [(value,)], cheapest, [HOUR], (value,))
        for value in OTHERS:
            self.assert_no(is_ticket, (value,) + HOUR[1:])
        self.assert_by_name(is_ticket, value=HOUR)
        self.assert_by_name(is_passage, value=THERE)

    def test_lists_of_them(self):
        calls = ((is_cover, (None,)), (cheapest, ()), (cheapest_cover, ()), (price_table, ()), (is_price_table, (None,)), (charges, ()))
        for call, more in calls:
            for value in FULL + [[], (), [HOUR] * 9, [HOUR, None]]:
                self.assert_error(InvalidTickets, [value], call, value, None, *more)
            for value in FULL + [[THERE] * 11, [THERE, None]]:
                self.assert_error(InvalidPassages, [value], call, [HOUR], value, *more)
            call([HOUR] * 8, [THERE] * 10, *more)
            call((HOUR,), (THERE,), *more)


class Prices(Case):
    def test_against_all_covers(self):
        none = 0
        for number in range(260):
            tickets, passages = some(number)
            covers_known = all_covers(tickets, passages)
            told = least(tickets, passages)
            none += told is None
            self.assert_told(told, cheapest, tickets, passages)
            self.assert_told(told, cheapest, tuple(tickets), tuple(passages))
            found = cheapest_cover(tickets, passages)
            self.assertEqual(found, cheapest_cover(tickets, passages))
            if told is None:
                self.assertIsNone(found)
            else:
                self.assertTrue(is_plain(found) and type(found) is list)
                self.assertIn(sorted(found, key=lambda row: row[1]), covers_known)
                self.assertEqual(told, price_of(tickets, found))
                self.assert_yes(is_cover, tickets, passages, found)
        self.assertGreater(none, 20)

    def test_the_example(self):
        self.assert_told(1000, cheapest, [HOUR, TWO, DAY], [THERE, THERE, BACK, BACK])
        self.assert_told([300, 200, 300, 200], charges, [HOUR, TWO, DAY], [THERE, THERE, BACK, BACK])
        self.assert_told([300, 300, 100, 0], charges, [HOUR, DAY], [(0, 20, (1,)), (100, 120, (1,)), (200, 220, (1,)), (300, 310, (1,))])

    def test_ten_passages(self):
        passages = [(100 * at, 100 * at + 30, (1,)) for at in range(10)]
        self.assert_told(3000, cheapest, [HOUR], passages)
        self.assert_told(700, cheapest, [HOUR, DAY], passages)
        self.assert_told(99990, cheapest, [("ticket", 9999, 1, (1,), 1)], passages)
        self.assert_told([9999] * 10, charges, [("ticket", 9999, 1, (1,), 1)], passages)
        self.assertEqual(1024, len(price_table([HOUR, DAY], passages)))
        self.assert_told(0, cheapest, [HOUR], [])
        self.assert_told([], cheapest_cover, [HOUR], [])
        self.assert_told([], charges, [HOUR], [])
        self.assert_told([0], price_table, [HOUR], [])

    def test_minutes_at_their_bound(self):
        for begin, price in ((59, 300), (60, 600), (61, 600)):
            self.assert_told(price, cheapest, [HOUR], [(0, 20, (1,)), (begin, 200, (1,))])
            self.assert_told(price, cheapest, [HOUR], [(begin, 200, (1,)), (0, 20, (1,))])
        # When they end is not asked.
        self.assert_told(300, cheapest, [HOUR], [(0, 9999, (1,))])
        long = ("ticket", 300, 11000, (1,), 5)
        self.assert_told(300, cheapest, [long], [(0, 1, (1,)), (9998, 9999, (1,))])

    def test_persons_and_ends_at_the_bound(self):
        for end, price in ((30, 300), (31, 600)):
            self.assert_told(price, cheapest, [HOUR], [(0, end, (1,)), (30, 40, (1,))])
            self.assert_told(price, cheapest, [HOUR], [(30, 40, (1,)), (0, end, (1,))])
        for many, price in ((1, 500), (2, 500), (3, 800), (4, 1000)):
            self.assert_told(price, cheapest, [HOUR, TWO], [(0, 20, (1,))] * many if many > 1 else [(0, 20, (1,))] * 2)
        five = ("ticket", 100, 60, (1,), 5)
        for many in range(11):
            self.assert_told(100 * ((many + 4) // 5), cheapest, [five], [(0, 20, (1,))] * many)
        # Two at a time, one behind another: never more than two at once.
        self.assert_told(500, cheapest, [TWO], [(0, 10, (1,)), (5, 15, (1,)), (10, 20, (1,)), (15, 25, (1,))])
        self.assert_told(1000, cheapest, [TWO], [(0, 11, (1,)), (5, 15, (1,)), (10, 20, (1,)), (15, 25, (1,))])

    def test_zones_without_a_ticket(self):
        self.assert_told(None, cheapest, [HOUR], [(0, 9, (3,))])
        self.assert_told(None, cheapest, [HOUR], [THERE, (0, 9, (1, 3))])
        self.assert_told(None, cheapest_cover, [HOUR], [THERE, (0, 9, (1, 3))])
        self.assert_told(None, charges, [HOUR], [THERE, (0, 9, (1, 3))])
        self.assert_told([0, 300, None, None], price_table, [HOUR], [THERE, (0, 9, (1, 3))])
        # Zones of two tickets together are those of none.
        self.assert_told(None, cheapest, [("ticket", 1, 60, (1,), 1), ("ticket", 1, 60, (2,), 1)], [THERE])

    def test_passages_that_cross_and_are_told_twice(self):
        self.assert_told(500, cheapest, [HOUR, TWO], [THERE, THERE])
        self.assert_told([300, 200], charges, [HOUR, TWO], [THERE, THERE])
        self.assert_told(300, cheapest, [HOUR, HOUR], [THERE])
        crossing = [(0, 50, (1,)), (10, 20, (2,)), (20, 30, (1,))]
        self.assert_told(500, cheapest, [HOUR, TWO], crossing)
        self.assert_told(600, cheapest, [HOUR], crossing)

    def test_one_more_is_never_less(self):
        for number in range(60):
            tickets, passages = some(number)
            if cheapest(tickets, passages) is not None:
                for place in range(len(passages)):
                    fewer = passages[:place] + passages[place + 1:]
                    self.assertLessEqual(cheapest(tickets, fewer), cheapest(tickets, passages))
                    both = cheapest(tickets, passages[:place]) + cheapest(tickets, passages[place:])
                    self.assertLessEqual(cheapest(tickets, passages), both)

    def test_charges(self):
        for number in range(120):
            tickets, passages = some(number)
            known = [least(tickets, passages[:many]) for many in range(len(passages) + 1)]
            told = None if known[-1] is None else [one - two for one, two in zip(known[1:], known)]
            self.assert_told(told, charges, tickets, passages)
            self.assert_told(told, charges, tuple(tickets), tuple(passages))


class Covers(Case):
    def test_against_all_covers(self):
        for number in range(120):
            tickets, passages = some(number, most=4)
            known = all_covers(tickets, passages)
            for lots in partings(list(range(len(passages)))):
                for kinds in itertools.product(range(len(tickets)), repeat=len(lots)):
                    cover = list(zip(kinds, lots))
                    self.assertIs(is_cover(tickets, passages, cover), cover in known)
                    self.assertIs(is_cover(tickets, passages, tuple(cover[::-1])), cover in known)

    def test_bent_at_each_place(self):
        tickets, passages = [HOUR, TWO, DAY], [THERE, THERE, BACK, BACK]
        cover = [(1, (0, 1)), (1, (2, 3))]
        self.assert_yes(is_cover, tickets, passages, cover)
        self.assert_yes(is_cover, tickets, passages, [(1, (Few.NONE, Few.ONE)), (Few.ONE, (2, 3))])
        for other in (
            cover[:1], cover + cover[:1], cover + [(0, ())], [[1, (0, 1)], cover[1]], [(1, [0, 1]), cover[1]], [(1, (1, 0)), cover[1]],
            [(1, (0, 0, 1)), cover[1]], [(3, (0, 1)), cover[1]], [(-1, (0, 1)), cover[1]], [(0, (0, 1)), cover[1]], [(1, (0, 4)), cover[1]],
            [(1, (-1, 1)), cover[1]], [(1, (0, 1), 0), cover[1]], [(1,), cover[1]], [(True, (0, 1)), cover[1]], [(1, (False, True)), cover[1]],
            [(1, (0, 1, 2, 3))], [(1, (0, 1)), (1, (1, 2, 3))], [(1, (0,)), (1, (2, 3))], {0: cover[0]}, [],
        ):
            self.assert_no(is_cover, tickets, passages, other)
        self.assert_yes(is_cover, [HOUR], [], [])
        self.assert_yes(is_cover, [HOUR], [], ())
        self.assert_no(is_cover, [HOUR], [], [(0, ())])

    def test_values_of_all_kinds(self):
        for value in OTHERS:
            self.assert_no(is_cover, [HOUR], [THERE], value)
            self.assert_no(is_cover, [HOUR], [THERE], [value])
            if type(value) is not int:
                self.assert_no(is_cover, [HOUR], [THERE], [(value, (0,))])
                self.assert_no(is_cover, [HOUR], [THERE], [(0, value)])
                self.assert_no(is_cover, [HOUR], [THERE], [(0, (value,))])


class Tables(Case):
    def test_least_prices(self):
        for number in range(120):
            tickets, passages = some(number, most=4)
            told = [least(tickets, [passages[place] for place in lot_of(lot)]) for lot in range(2 ** len(passages))]
            self.assert_told(told, price_table, tickets, passages)
            self.assert_yes(is_price_table, tickets, passages, told)
            self.assert_yes(is_price_table, tickets, passages, tuple(told))

    def is_table(self, tickets, passages, table):
        """The definition of [94]."""
        if table[0] != 0:
            return False
        for lot in range(1, len(table)):
            places = lot_of(lot)
            first = min(places, key=lambda place: (passages[place][0], place))
            for part in range(1, lot + 1):
                if part & lot == part and first in lot_of(part):
                    rest = table[lot - part]
                    for ticket in tickets:
                        if covers(ticket, [passages[place] for place in lot_of(part)]) and rest is not None:
                            if table[lot] is None or table[lot] > rest + ticket[1]:
                                return False
        return True

    def test_bent_at_each_place(self):
        yes = 0
        for number in range(70):
            tickets, passages = some(number, most=4)
            table = price_table(tickets, passages)
            for at in range(len(table)):
                for value in (None, 0, 1, 99999, (table[at] or 0) + 1, max(0, (table[at] or 0) - 1), (table[at] or 0) + 10):
                    told = self.is_table(tickets, passages, put(table, (at,), value))
                    self.assertIs(is_price_table(tickets, passages, put(table, (at,), value)), told)
                    yes += told
            self.assert_no(is_price_table, tickets, passages, table[:-1])
            self.assert_no(is_price_table, tickets, passages, table + [None])
            self.assert_no(is_price_table, tickets, passages, table + table)
        self.assertGreater(yes, 200)

    def test_lesser_tables(self):
        # Less for one lot lets less for those that are made of it, and asks it of none.
        tickets, passages = [HOUR, TWO], [THERE, BACK]
        for table, told in (
            ([0, 300, 200, 500], True), ([0, 300, 301, 600], False), ([0, 0, 0, 0], True), ([0, 300, 300, 600], True),
            ([0, 300, 300, 601], False), ([0, 300, 300, None], False), ([0, None, 300, 300], False), ([1, 0, 0, 0], False),
            ([None, 300, 300, 600], False), ([0, 300, 0, 300], True), ([0, 300, 0, 301], False), ([0, 0, 300, 600], True),
        ):
            self.assertIs(is_price_table(tickets, passages, table), told, table)

    def test_the_first_one_begins_soonest(self):
        # The place behind begins first: the lot of both may be dear if what is left of it, without its first, is.
        for passages, table in (([THERE, BACK], [0, 300, 0, 300]), ([BACK, THERE], [0, 0, 300, 300])):
            self.assert_yes(is_price_table, [HOUR], passages, table)
        for passages, table in (([THERE, BACK], [0, 0, 300, 300]), ([BACK, THERE], [0, 300, 0, 300])):
            self.assertIs(is_price_table([HOUR], passages, table), True)
        for passages, table in (([THERE, BACK], [0, 0, 300, 301]), ([BACK, THERE], [0, 300, 0, 301])):
            self.assertIs(is_price_table([HOUR], passages, table), self.is_table([HOUR], passages, table))

    def test_no_more_than_the_cheapest(self):
        rng = random.Random(3)
        for number in range(60):
            tickets, passages = some(number, most=4)
            table = price_table(tickets, passages)
            for _ in range(30):
                other = [price if rng.random() < 0.5 or price is None else rng.randint(0, price) for price in table]
                if is_price_table(tickets, passages, other):
                    for price, own in zip(other, table):
                        if own is not None:
                            self.assertTrue(price is not None and price <= own)

    def test_counts_to_99999(self):
        none = [(0, 20, (3,))]
        for value, told in ((0, True), (99999, True), (100000, False), (-1, False), (None, True), (True, False), ("0", False), (Few.ONE, True)):
            self.assertIs(is_price_table([HOUR], none, [0, value]), told)
        for value in OTHERS:
            self.assert_no(is_price_table, [HOUR], [THERE], value)
            if type(value) is not int:
                self.assert_no(is_price_table, [HOUR], [THERE], [0, value])
                self.assert_no(is_price_table, [HOUR], [THERE], [value, 300])
        self.assert_yes(is_price_table, [HOUR], [], [0])
        self.assert_no(is_price_table, [HOUR], [], [False])

    def test_by_name_and_plain(self):
        told = dict(tickets=[HOUR, TWO], passages=[THERE, BACK])
        for call in (cheapest, cheapest_cover, price_table, charges):
            self.assert_by_name(call, **told)
        self.assert_by_name(is_cover, **told, value=[(0, (0,)), (0, (1,))])
        self.assert_by_name(is_price_table, **told, value=[0, 300, 300, 600])
        own = [("ticket", Few.TWO, Few.TWO, (Few.ONE, Few.TWO), Few.ONE)]
        rows = [(Few.NONE, Few.TWO, (Few.ONE,)), (Few.ONE, Few.TWO, (Few.TWO,))]
        self.assert_same(4, cheapest(own, rows))
        self.assert_same([(0, (0,)), (0, (1,))], sorted(cheapest_cover(own, rows)))
        self.assert_same([0, 2, 2, 4], price_table(own, rows))
        self.assert_same([2, 2], charges(own, rows))


if __name__ == "__main__":
    unittest.main()
