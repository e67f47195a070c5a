"""The examples of the document, just as they stand; names go on from one to the next."""

import doctest
import os
import re
import unittest

BASICS = """
>>> from citylines.basics import clock_of, clock_text, is_minute
>>> [clock_text(9), clock_text(1445), clock_of("33:19"), is_minute(2000), is_minute(True)]
['00:09', '24:05', 1999, False, False]
"""

CITIES = """
>>> from citylines.cities import change_between, closed, drive_between, is_city, is_closed, walk_between
>>> city = ("city", (1, 1, 2), (2, 1, 3), ((0, 4, 9), (4, 0, 6), (9, 6, 0)), ((0, 3, 7), (3, 0, 5), (7, 5, 0)))
>>> [is_city(city), change_between(city, 0, 0), change_between(city, 0, 2), walk_between(city, 0, 0), drive_between(city, 2, 0)]
[True, 2, 9, 0, 7]
>>> [is_closed(((0, 4, 20), (4, 0, 6), (20, 6, 0))), closed(((0, 4, 20), (4, 0, 6), (20, 6, 0)))]
[False, ((0, 4, 10), (4, 0, 6), (10, 6, 0))]
"""

LINES = """
>>> from citylines.lines import are_lines, is_line, least_between
>>> lines = (("line", (0, 1, 2), (4, 6), (1,), 3), ("line", (2, 0), (8,), (), 5))
>>> [are_lines(city, lines), is_line(city, ("line", (0, 1), (2,), (), 3)), least_between(lines[0], 0, 1), least_between(lines[0], 1, 1)]
[True, False, 11, 6]
"""

TRIPS = """
>>> from citylines.trips import are_trips, beat, joined_trips, slacks, told_arrival, told_departure, trip_ahead
>>> [beat(city, lines, 0, 60, 10, 2), beat(city, lines, 1, 70, 5, 1)]
[(('trip', 0, (60, 65)), ('trip', 0, (70, 75))), (('trip', 1, (70,)),)]
>>> trips = joined_trips(city, lines, beat(city, lines, 1, 70, 5, 1), beat(city, lines, 0, 60, 10, 2))
>>> [len(trips), trips[2], trip_ahead(trips, 1), trip_ahead(trips, 2), told_departure(trips[1], 1), told_arrival(lines, trips[1], 1)]
[3, ('trip', 1, (70,)), 0, None, 75, 81]
>>> [are_trips(city, lines, trips), slacks(lines, ("trip", 0, (60, 72))), joined_trips(city, lines, trips, (("trip", 0, (62, 67)),))]
[True, [7], None]
"""

BLOCKS = """
>>> from citylines.blocks import block_place, charged, first_level, lack, levels, ready
>>> bus = ("block", (0, 3), (4,), (50, (30, 40), 2))
>>> [first_level(bus), lack(bus, 1, 20), ready(bus, 1, 20, 100), ready(bus, 1, 38, 100), charged(bus, 1, 20, 100, 113), charged(bus, 1, 20, 100, 120)]
[20, 10, 110, 104, 6, 10]
>>> held = ("block", (0, 1, 2), (0, 0), (20, (15, 10, 15), 1))
>>> [ready(held, 2, 0, 120), ready(held, 2, 7, 127), levels(held, [(80, 100), (112, 127), (135, 150)]), block_place([bus, held], 2), block_place([bus, held], 9)]
[135, 135, [5, 7, 0], (1, 2), None]
"""

DUTIES = """
>>> from citylines.duties import duty_place, duty_rides, spans, stretches, there
>>> day = ("duty", ((0, 0, 2), (1, 1, 1), (2, 0, 0)), (("walk", 3), ("rest", 30)))
>>> [duty_rides(day), duty_place([day], 1, 1), duty_place([day], 1, 0), there(day, 1, 100), stretches(day), spans(day, [(60, 100), (104, 120), (155, 170)])]
[[(0, 0), (0, 1), (0, 2), (1, 1), (2, 0)], (0, 1), None, 103, [(0, 1), (2, 2)], [(40, 40), (60, 60), (15, 110)]]
"""

MEETS = """
>>> from citylines.meets import asks, in_vain, is_made, leaves, quiet, soonest
>>> [leaves(12, [(0, 10 + late, 10, 1, 15, "news")]) for late in range(7)]
[12, 12, 13, 14, 15, 12, 12]
>>> [leaves(12, [(0, 10 + late, 10, 1, 15, "blind")]) for late in range(7)]
[12, 12, 13, 14, 15, 15, 15]
>>> far = (13, 16, 2, 1, 15, "news")
>>> [soonest(far, 11), soonest(far, 12), soonest(far, 13), asks(far, 11), asks(far, 12), quiet(far), leaves(10, [far]), in_vain(10, [far]), in_vain(12, [far]), is_made(far, 17)]
[15, 16, 17, True, False, 12, 12, [0], [], True]
"""

PLANS = """
>>> from citylines.plans import beside, is_plan, ride_at, rides, unsound, with_budget, with_part
>>> city = ("city", (1, 1, 2), (0, 1, 0), ((0, 5, 9), (5, 0, 4), (9, 4, 0)), ((0, 2, 4), (2, 0, 2), (4, 2, 0)))
>>> lines = (("line", (0, 1), (10,), (), 5), ("line", (1, 2), (8,), (), 5))
>>> trips = (("trip", 0, (0,)), ("trip", 1, (12,)))
>>> blocks = (("block", (0,), (), None), ("block", (1,), (), None))
>>> duties = (("duty", ((0, 0, 0),), ()), ("duty", ((1, 0, 0),), ()))
>>> meets, promises, delays = (("meet", 0, 0, 1, 0, 3, "news"),), (("leaves", 1, 0, 2),), (((9,), (0,)), 9)
>>> small = ("plan", city, lines, trips, blocks, duties, meets, promises, delays, None, (), ())
>>> [is_plan(small), rides(small), ride_at(small, 1, 0), unsound(small), unsound(small[:11])]
[True, [(0, 0), (1, 0)], 1, None, 'form']
>>> [unsound(small[:3] + ((("trip", 0, (0,)), ("trip", 1, (10,))),) + small[4:]), with_budget(small, 4)[8], rides(beside(small, small))]
['meets', (((9,), (0,)), 4), [(0, 0), (2, 0), (1, 0), (3, 0)]]
>>> with_part(small, "promises", ()) == small[:7] + ((),) + small[8:]
True
"""

DAYS = """
>>> from citylines.days import day, is_course, reasons, told_day
>>> [is_course(small, [9, 0]), is_course(small, [0, 1]), is_course(small, [9]), told_day(small)]
[True, False, False, ('day', ((0, 10), (12, 20)), (True,), ())]
>>> [day(small, [3, 0]), day(small, [4, 0])]
[('day', ((0, 13), (14, 22)), (True,), ()), ('day', ((0, 14), (15, 23)), (True,), ((1, 0, 1),))]
>>> [day(small, [5, 0]), reasons(small, [4, 0], 1), reasons(small, [5, 0], 1)]
[('day', ((0, 15), (12, 20)), (False,), ()), ([('meet', 0)], [('delay',)]), ([('told',)], [('delay',)])]
"""

FIELDS = """
>>> from citylines.fields import fields, first_standing, standing, step
>>> city = ("city", (1, 1, 1), (1, 1, 1), ((0, 5, 9), (5, 0, 5), (9, 5, 0)), ((0, 5, 9), (5, 0, 5), (9, 5, 0)))
>>> lines = (("line", (0, 1), (10,), (), 5), ("line", (1, 2), (7,), (), 5))
>>> trips = (("trip", 0, (0,)), ("trip", 1, (12,)))
>>> vehicles = (("block", (0,), (), None), ("block", (1,), (), None))
>>> drivers = (("duty", ((0, 0, 0),), ()), ("duty", ((1, 0, 0),), ()))
>>> meets, promises = (("meet", 0, 0, 1, 0, 3, "news"),), (("leaves", 1, 0, 2),)
>>> kept = ("plan", city, lines, trips, vehicles, drivers, meets, promises, (((5,), (0,)), 3), None, (), ())
>>> late = ("plan", city, lines, trips, vehicles, drivers, meets, promises, (((5,), (0,)), 5), None, (), ())
>>> [fields(kept, 0), fields(kept, 1), fields(kept, 2), first_standing(kept), standing(late, [4, 0], 1), standing(late, (4, 0), 2)]
[[], [('end', 0), ('left', 0)], [], (), (4, 0), ()]
>>> [step(late, 0, (), 4), step(late, 1, (3, 0), 0), step(late, 1, (4, 0), 0), step(late, 1, (5, 0), 0)]
[((4, 0), (0, 14), (), ()), ((), (14, 21), (0,), ()), ((), (15, 22), (0,), ((0, 1),)), ((), (12, 19), (), ())]
"""

BOOKS = """
>>> from citylines.books import book, is_book, reached
>>> [reached(kept)[1], book(kept) == reached(kept), book(late), len(reached(late)[1])]
[[((0, 0), 0), ((1, 0), 1), ((2, 0), 2), ((3, 0), 3)], True, None, 6]
>>> some = [((0, 0), 0), ((1, 0), 0), ((2, 0), 2), ((3, 0), 3)]
>>> [is_book(kept, [[((), 0)], one, [((), 0)]]) for one in [some, some + [((5, 0), 3)], some + [((4, 0), 3)], some[1:], [((0, 0), 1)] + some[1:]]]
[True, True, False, False, False]
"""

COURSES = """
>>> from citylines.courses import breakable, greatest_late, is_breaking, least_course
>>> three = ("city", (1, 1, 1), (0, 1, 0), ((0, 9, 18), (9, 0, 9), (18, 9, 0)), ((0, 5, 9), (5, 0, 5), (9, 5, 0)))
>>> feeds, takes = ("line", (0, 1), (10,), (), 1), ("line", (1, 2), (10,), (), 1)
>>> begun = ("plan", three, (feeds, takes), (("trip", 0, (0,)), ("trip", 1, (12,))))
>>> begun = begun + ((("block", (0,), (), None), ("block", (1,), (), None)),)
>>> begun = begun + ((("duty", ((0, 0, 0),), ()), ("duty", ((1, 0, 0),), ())),)
>>> held = begun + ((("meet", 0, 0, 1, 0, 3, "news"),), (("leaves", 1, 0, 2),), (((5,), (0,)), 5), None, (), ())
>>> [least_course(held), breakable(held), is_breaking(held, (4, 0)), is_breaking(held, [5, 0]), is_breaking(held, [6, 0])]
[[4, 0], [[4, 0]], True, False, False]
>>> [greatest_late(held, 0), greatest_late(held, 1)]
[(5, [5, 0]), (3, [4, 0])]
"""

LEASTS = """
>>> from citylines.leasts import are_alike, least_book, parting_course
>>> [len(states) for states in least_book(held)]
[1, 3]
>>> least_book(held)[0]
[((0, (), ()), (0, (), ()), (0, (), ()), (0, (), ()), (1, (), ()), (2, (), ()))]
>>> least_book(held)[1]
[((0, (0,), ()),), ((0, (0,), ((0, 1),)),), ((0, (), ()),)]
>>> loose = held[:7] + ((("leaves", 1, 0, 3),),) + held[8:]
>>> [least_course(loose), are_alike(held, loose), parting_course(held, loose), are_alike(held, held), parting_course(loose, loose)]
[None, False, [4, 0], True, None]
"""

SIGNS = """
>>> from citylines.signs import is_sign_book, late_news, misled, moment, news, said, sign_book, window
>>> city = ("city", (1, 1, 1, 1), (0, 0, 0, 0), ((0, 9, 9, 9), (9, 0, 9, 9), (9, 9, 0, 1), (9, 9, 1, 0)), ((0, 5, 5, 5), (5, 0, 5, 5), (5, 5, 0, 5), (5, 5, 5, 0)))
>>> lines, trips = (("line", (0, 1, 2), (5, 5), (0,), 1), ("line", (3, 0), (5,), (), 1)), (("trip", 0, (0, 5)), ("trip", 1, (12,)))
>>> blocks, duties = (("block", (0,), (), None), ("block", (1,), (), None)), (("duty", ((0, 0, 1),), ()), ("duty", ((1, 0, 0),), ()))
>>> plan = ("plan", city, lines, trips, blocks, duties, (("meet", 0, 1, 1, 0, 3, "news"),), (), (((3, 3), (0,)), 5), None, (), ())
>>> [moment(plan, [2, 3, 0], many) for many in range(4)], window(plan, [2, 3, 0], 1, 2), [said(plan, [2, 3, 0], many, 2, "now") for many in range(3)]
([0, 0, 7, 12], (12, 15), [12, 13, 12])
>>> [misled(plan, 2), news(plan, [1, 1, 0], 2), late_news(plan, 2, 7), late_news(plan, 2, 4)]
[[2, 3, 0], [(2, 12, 13)], [1, 1, 0], None]
>>> is_sign_book(plan, 2, "least", 4, sign_book(plan, 2, "least", 4)), sign_book(plan, 2, "now", 0)
(True, None)
"""

RIDERS = """
>>> from citylines.riders import arrival, is_sure_book, is_way, late_course, places, ridden, sure_book, surely_by
>>> city = ("city", (1, 1, 1), (2, 2, 2), ((0, 20, 30), (20, 0, 20), (30, 20, 0)), ((0, 4, 6), (4, 0, 4), (6, 4, 0)))
>>> lines = (("line", (0, 1), (5,), (), 3), ("line", (1, 2), (5,), (), 3))
>>> trips = (("trip", 0, (10,)), ("trip", 1, (18,)), ("trip", 1, (30,)))
>>> blocks = (("block", (0,), (), None), ("block", (1,), (), None), ("block", (2,), (), None))
>>> duties = (("duty", ((0, 0, 0),), ()), ("duty", ((1, 0, 0),), ()), ("duty", ((2, 0, 0),), ()))
>>> trio = ("plan", city, lines, trips, blocks, duties, (("meet", 0, 0, 1, 0, 2, "blind"),), (), (((4,), (0,), (0,)), 4), None, (), ())
>>> way = (0, 10, ("ride", 0, 1, ("ride", 1, 2, ("there",))))
>>> [is_way(trio, way), arrival(trio, [0, 0, 0], way), arrival(trio, [3, 0, 0], way), arrival(trio, [4, 0, 0], way)]
[True, 23, 25, 35]
>>> [ridden(trio, [4, 0, 0], way), surely_by(trio, way), late_course(trio, way, 23), late_course(trio, way, 35)]
[[(0, 0, 0), (2, 0, 0)], (35, [4, 0, 0]), [2, 0, 0], None]
>>> places(trio, [2, 0, 0], way)
[('at', 10, 0), ('at', 19, 1), ('there', 24), ('there', 24)]
>>> sure = sure_book(trio, way, 35)
>>> [sure[1][0], sure[2]]
[((0,), ('at', 17, 1), 0), [((0, 0), ('there', 23), 0), ((1, 1), ('there', 24), 2), ((2, 2), ('at', 21, 1), 4), ((2, 2), ('there', 25), 3)]]
>>> [is_sure_book(trio, way, 35, sure), is_sure_book(trio, way, 34, sure), sure_book(trio, way, 34)]
[True, False, None]
>>> late = ("ride", 1, 2, ("there",))
>>> either = (0, 10, ("ride", 0, 1, ("by", 18, late, ("walk", 2, ("there",)))))
>>> [arrival(trio, [3, 0, 0], either), arrival(trio, [4, 0, 0], either), arrival(trio, [0, 0, 0], (0, 11, way[2])), is_way(trio, (2, 10, late))]
[25, 39, None, False]
"""

PROFILES = """
>>> from citylines.profiles import are_same_for_riders, earliest, parting_rider, quick_way, staircase
>>> [staircase(trio, 0, 2), staircase(trio, 1, 2), staircase(trio, 2, 0)]
[[(10, 23)], [(18, 23), (30, 35)], [(10, 65)]]
>>> [earliest(trio, 1, 2, 18), earliest(trio, 1, 2, 19), earliest(trio, 0, 2, 11), arrival(trio, [0, 0, 0], quick_way(trio, 0, 2, 3))]
[23, 35, None, 23]
>>> slow = trio[:3] + ((trips[0], ("trip", 1, (19,)), trips[2]),) + trio[4:]
>>> [are_same_for_riders(trio, trio), parting_rider(trio, slow), earliest(slow, 0, 2, 0)]
[True, (0, 2, 0), 24]
"""

REMEDIES = """
>>> from citylines.plans import with_part
>>> from citylines.remedies import after, gone, heard_more, is_remedy, is_run, judged, run_hops, waits, waits_that_keep, weighed
>>> city = ("city", (1, 1, 2), (0, 1, 0), ((0, 5, 9), (5, 0, 4), (9, 4, 0)), ((0, 2, 4), (2, 0, 2), (4, 2, 0)))
>>> lines = (("line", (0, 1), (10,), (), 5), ("line", (1, 2), (8,), (), 5))
>>> trips, blocks = (("trip", 0, (0,)), ("trip", 1, (12,))), (("block", (0,), (), None), ("block", (1,), (), None))
>>> duties, meets = (("duty", ((0, 0, 0),), ()), ("duty", ((1, 0, 0),), ())), (("meet", 0, 0, 1, 0, 3, "news"),)
>>> room = ("plan", city, lines, trips, blocks, duties, meets, (("leaves", 1, 0, 2), ("meets", 0)), (((9,), (0,)), 9), None, (), ())
>>> [is_remedy(room, ("wait", 0, 60)), is_remedy(room, ("wait", 0, 61)), is_remedy(room, ("spare", 1, 3)), is_remedy(room, ("drop", 1)), is_remedy(room, ("cut", 1, 0))]
[True, False, False, True, False]
>>> late = heard_more(room, [4])
>>> [late[10:], judged(late), is_remedy(late, ("drop", 0)), is_remedy(late, ("free", 0))]
[((4,), ()), ([1], [(0, [4, 0])], []), False, True]
>>> free = after(late, ("free", 0))
>>> [free[11], judged(free), waits(free), gone(free), is_remedy(free, ("wait", 0, 3))]
[((1, ('free', 0)),), ([0], [], [1]), [None], [1], False]
>>> [judged(after(late, ("wait", 0, 2))), weighed(late, ("wait", 0, 2)), weighed(late, ("free", 0))]
[([0], [(1, [4, 0])], []), ([0], [1], []), ([0], [], [1])]
>>> [waits_that_keep(room, 0), waits_that_keep(with_part(room, "promises", (("leaves", 1, 0, 2),)), 0)]
[[], [0, 1, 2]]
>>> [run_hops(after(room, ("drop", 1))), is_run(after(room, ("drop", 1)), 1), judged(after(room, ("drop", 1)))]
[[1, 0], False, ([], [], [0, 1])]
"""

SPARES = """
>>> from citylines.spares import fewest_blocks, is_apart, is_chains, leads
>>> three = (("trip", 0, (0,)), ("trip", 1, (12,)), ("trip", 0, (30,)))
>>> [leads(city, lines, three, 2, 0, 1), leads(city, lines, three, 3, 0, 1), leads(city, lines, three, 3, 0, 2)]
[True, False, True]
>>> [[len(part) for part in fewest_blocks(city, lines, three, turn)] for turn in (2, 3, 21)]
[[1, 1], [2, 2], [3, 3]]
>>> [is_chains(city, lines, three, 2, [[0, 1, 2]]), is_chains(city, lines, three, 3, [[0, 1, 2]]), is_chains(city, lines, three, 3, [[1], [0, 2]])]
[True, False, True]
>>> [is_apart(city, lines, three, 3, [0, 1]), is_apart(city, lines, three, 3, [1, 0]), is_apart(city, lines, three, 3, [0, 2])]
[True, False, False]
"""

TICKETS = """
>>> from citylines.tickets import charges, cheapest, is_cover, is_price_table, price_table
>>> hour, two, day = ("ticket", 300, 60, (1, 2), 1), ("ticket", 500, 60, (1, 2), 2), ("ticket", 700, 1440, (1, 2), 1)
>>> there, back = (0, 20, (1, 2)), (70, 90, (1,))
>>> [cheapest([hour, two, day], [there, there, back, back]), charges([hour, two, day], [there, there, back, back])]
[1000, [300, 200, 300, 200]]
>>> [is_cover([hour, two], [there, there], [(1, (0, 1))]), is_cover([hour, two], [there, there], [(0, (0, 1))]), cheapest([hour], [(0, 9, (3,))])]
[True, False, None]
>>> [price_table([hour, two], [there, back]), is_price_table([hour, two], [there, back], [0, 300, 200, 500]), is_price_table([hour, two], [there, back], [0, 300, 301, 600])]
[[0, 300, 300, 600], True, False]
"""

TAPS = """
>>> from citylines.taps import bill, charge, do_go, first_free, fitting, refund, taps_of, told_passage, true_passage
>>> both = [(0, 0, 0), (1, 0, 0)]
>>> [told_passage(small, (1, 0, 0)), true_passage(small, [3, 0], (1, 0, 0)), do_go(small, [3, 0], both), do_go(small, [5, 0], both)]
[(12, 20, (1, 2)), (14, 22, (1, 2)), True, False]
>>> taps_of(small, [3, 0], both)
[(0, 0, 'in'), (13, 1, 'out'), (14, 1, 'in'), (22, 2, 'out')]
>>> [fitting(small, [3, 0], [(0, 0, "in"), (22, 2, "out")]), fitting(small, [3, 0], [(13, 0, "in")]), charge(small, [3, 0], [hour], [(14, 1, "in")])]
[[[(0, 0, 0), (1, 0, 0)]], [], 300]
>>> account = ("account", (hour, two, day), (tuple(both), ((1, 0, 0),)))
>>> [bill(small, [3, 0], account), refund(small, [3, 0], account), first_free(small, [3, 0], both)]
[500, 0, None]
"""

TEXTS = """
>>> from citylines.texts import plan_of, plan_text
>>> rows = ["zones 1 1 2", "changes 0 1 0", "walks 0 5 9", "walks 5 0 4", "walks 9 4 0", "drives 0 2 4", "drives 2 0 2", "drives 4 2 0"]
>>> rows = rows + ["line 0 1 / 10 / - / 5", "line 1 2 / 8 / - / 5", "trip 0 / 00:00", "trip 1 / 00:12", "block 0 / -", "block 1 / -"]
>>> rows = rows + ["duty 0 0 0", "duty 1 0 0", "meet 0 0 1 0 3 news", "promise leaves 1 0 2", "bounds 9", "bounds 0", "budget 9"]
>>> small = plan_of("\\n".join(rows))
>>> [small[3], small[6:], plan_text(small) == "\\n".join(rows)]
[(('trip', 0, (0,)), ('trip', 1, (12,))), ((('meet', 0, 0, 1, 0, 3, 'news'),), (('leaves', 1, 0, 2),), (((9,), (0,)), 9), None, (), ()), True]
"""

CLAIMS = """
>>> from citylines.claims import contrary, is_claim, is_paper_of, is_true, paper_of, words
>>> [words()[0], contrary(("keeps", small)) == ("breaks", small), is_true(("keeps", small)), is_true(("breaks", small)), paper_of(("keeps", small))]
[('keeps', 'breaks'), True, False, True, None]
>>> [is_paper_of(("breaks", small), value) for value in [[4, 0], [5, 0], [9, 0], (4, 0), [4]]]
[True, False, False, True, False]
>>> [is_claim(("keeps", small, 0)), is_claim(("within", [("ticket", 300, 60, (1,), 1)], [(0, 20, (1,))], 300)), is_true(("alike", small, small))]
[False, True, True]
>>> [paper_of(("within", [("ticket", 300, 60, (1,), 1)], [(0, 20, (1,))], 300)), is_paper_of(("above", [("ticket", 300, 60, (1,), 1)], [(0, 20, (1,))], 299), [0, 300])]
[[(0, (0,))], True]
"""

COMMANDS = """
>>> from citylines.commands import is_command, is_deed, is_name
>>> [is_command(line) for line in ["plan p zones", "budget p 3", "budget p 03", "claim k safe p 1 now", "claim k safe p 1 least", "hear p 0,3", "remedy p cut 1 0", "spares p -", "bound p 1 0"]]
[True, True, False, True, False, True, True, True, False]
>>> [is_deed("moment p"), is_deed("claim k above t a 300"), is_deed("part p 0"), is_name("a1"), is_name("1a"), is_name("longerthan12x"), is_name("")]
[False, True, True, True, False, False, False]
"""

DESK = """
>>> from citylines.desk import Desk
>>> desk = Desk()
>>> desk.do_all("plan p " + "\\n".join(rows), "claim k keeps p", "can p", "least p", "budget p 3", "hear p 3", "next p", "heard p", "moment p")
['-', 'k false', '0', '4,0', 'k true', '-', '1 0', '0 0 0 13', '0']
>>> desk.do_all("sign p 1 least", "remedy p free 0", "sign p 1 now", "undo", "late p 1", "copy q p", "claim s same p q", "part q 0", "state s", "drop q", "states")
['14', '-', '12', 'remedy p free 0', '2', '-', 's true', '-', 'true', 's gone', 'k true, s gone']
"""

EXAMPLES = [
    ("basics", BASICS), ("cities", CITIES), ("lines", LINES), ("trips", TRIPS), ("blocks", BLOCKS), ("duties", DUTIES),
    ("meets", MEETS), ("plans", PLANS), ("days", DAYS), ("fields", FIELDS), ("books", BOOKS),
    ("courses", COURSES), ("leasts", LEASTS), ("signs", SIGNS), ("riders", RIDERS),
    ("profiles", PROFILES), ("remedies", REMEDIES), ("spares", SPARES), ("tickets", TICKETS), ("taps", TAPS),
    ("texts", TEXTS), ("claims", CLAIMS), ("commands", COMMANDS), ("desk", DESK),
]


README = os.path.join(os.path.dirname(os.path.dirname(os.path.abspath(__file__))), "README.md")


class Examples(unittest.TestCase):
    def test_all_in_their_sequence(self):
        self.assert_examples(EXAMPLES)

    def test_those_of_the_readme(self):
        with open(README, encoding="utf-8") as file:
            texts = re.findall(r"^```\n(>>> .*?)^```", file.read(), re.MULTILINE | re.DOTALL)
        self.assertEqual(3, len(texts))
        self.assert_examples([("README", text) for text in texts])

    def assert_examples(self, rows):
        names = {}
        for title, text in rows:
            example = doctest.DocTestParser().get_doctest(text, names, title, None, 0)
            self.assertTrue(example.examples)
            told = []
            runner = doctest.DocTestRunner(verbose=False)
            runner.run(example, out=told.append, clear_globs=False)
            self.assertEqual(0, runner.failures, "".join(told))
            names = example.globs


if __name__ == "__main__":
    unittest.main()
