"""[61] to [68]: moments, windows, signs, news, misleading courses, reached rows, sign books."""

import random
import unittest

from citylines.errors import InvalidCourse, InvalidMany, InvalidNotice, InvalidPlan, InvalidRide, InvalidSign, TooMany
from citylines.fields import first_standing, standing, step
from citylines.plans import is_plan, with_budget
from citylines.signs import is_misleading, is_sign_book, late_news, misled, moment, news, said, sign_book, window
from helpers import Case, Few, NO_INTEGERS, OTHERS, listed, paths, put
from known_signs import Known
from reckon import Reckoned, all_rides, courses, least_of, let_bounds
from some_plans import made, put_part, table_sizes, wide
from told_plans import CASE_B, CASE_D, CHARGED, TWO_FEEDERS, alone, case_e, overview, plan_of

UNSOUND = put_part(CASE_B, "promises", (("driven", 1, 29),))
# The plan of the interface: a feeder of two rides, of which the first one lets the taker wait, the second one sets it free.
FREED = plan_of(
    [((0, 1, 2), (5, 5), (0,)), ((3, 0), (5,), ())], [(0, (0, 5)), (1, (12,))], meets=(("meet", 0, 1, 1, 0, 3, "news"),),
    bounds=((3, 3), (0,)), budget=5, walk=1,
)


def some(count, **told):
    """Plans with few courses, of which something can be said."""
    found = []
    for number in range(count):
        plan = made(number, rides=5, bound=2, budget=3, **told)
        if len(courses(plan)) <= 60:
            found.append(plan)
    return found


class Against(Case):
    def assert_signs(self, plan, rng):
        known = Known(plan)
        for course in rng.sample(sorted(known.days), min(4, len(known.days))):
            for many in range(len(course) + 1):
                self.assert_told(known.moment(course, many), moment, plan, course, many)
            for ride in known.run():
                self.assert_told(known.news(course, ride), news, plan, course, ride)
                for many in range(ride + 1):
                    self.assert_told(known.window(course[:many], ride), window, plan, course, many, ride)
                    for word in ("least", "now"):
                        self.assert_told(known.said(course[:many], ride, word), said, plan, course, many, ride, word)

    def test_moments_windows_words_and_news(self):
        for at, plan in enumerate(some(90)):
            self.assert_signs(plan, random.Random(at))

    def test_the_documents_plans(self):
        for at, plan in enumerate((FREED, overview(), CASE_D, TWO_FEEDERS, CHARGED, case_e((1, 1, 2)))):
            self.assert_signs(with_budget(plan, min(plan[8][1], 5)), random.Random(at))

    def assert_misleading(self, plan):
        known = Known(plan)
        found = 0
        for ride in known.run():
            for word, notice in (("least", 0), ("least", 2), ("least", 7), ("now", 0)):
                bad = [list(course) for course in known.days if known.misleads(course, ride, word, notice)]
                told = (late_news, plan, ride, notice) if word == "least" else (misled, plan, ride)
                self.assert_told(least_of(bad), *told)
                for course in list(known.days)[:12]:
                    self.assertIs(is_misleading(plan, ride, word, notice, course), list(course) in bad)
                book = sign_book(plan, ride, word, notice)
                self.assertEqual(bad == [], book is not None)
                if book is not None:
                    self.assert_yes(is_sign_book, plan, ride, word, notice, book)
                    self.assertEqual(book, sign_book(plan, ride, word, notice))
                found += bad != [] and word == "now"
        return found

    def test_misleading_courses_and_books(self):
        for plan in some(110):
            self.assert_misleading(plan)

    def test_now_with_news_and_batteries(self):
        plans = [FREED, with_budget(CHARGED, 7), with_budget(CASE_D, 6), with_budget(TWO_FEEDERS, 4)]
        self.assertGreater(sum(self.assert_misleading(plan) for plan in plans), 2)
        plans = []
        for wait in (2, 3, 5):
            for bounds, budget in ((((2, 3), (1,)), 5), (((3, 3), (0,)), 6), (((3, 1), (2,)), 4)):
                plan = put_part(FREED, "meets", (("meet", 0, 1, 1, 0, wait, "news"),))
                plans.append(put_part(plan, "delays", (bounds, budget)))
                plans.append(put_part(plans[-1], "heard", (2,)))
        self.assertGreater(sum(self.assert_misleading(plan) for plan in plans), 5)

    def test_now_never_misleads_without_them(self):
        for plan in some(60, battery=False):
            plan = put_part(plan, "meets", tuple(meet[:6] + ("blind",) for meet in plan[6]))
            if is_plan(plan):
                for ride in Known(plan).run():
                    self.assertIsNone(misled(plan, ride))

    def test_reached_rows(self):
        # The books that are returned have just the reached rows.
        for plan in some(50):
            known = Known(plan)
            for ride in known.run():
                for word, notice in (("least", 0), ("now", 0)):
                    book = sign_book(plan, ride, word, notice)
                    if book is not None:
                        self.assertEqual([self.rows(known, ride, word, many) for many in range(ride + 1)], book)

    def rows(self, known, ride, word, many):
        found = {}
        for course in known.days:
            prefix = course[:many]
            held, spent = standing(known.plan, course, many), sum(prefix)
            moment_then = known.moment(course, many)
            if word == "least":
                found[(held, spent, moment_then)] = known.said(prefix, ride, word)
            else:
                key = (held, moment_then, known.stairs(prefix, ride))
                found[key] = min(spent, found.get(key, spent))
        return sorted(key + (last,) for key, last in found.items())


class ByHand(Case):
    def test_news_in_time_and_late(self):
        # The taker hears at 7 that it leaves at 13, which was said to be 12: in time for a notice of 5, not for 6.
        self.assert_told([(2, 12, 13)], news, FREED, [2, 0, 0], 2)
        self.assertEqual(7, moment(FREED, [2, 0, 0], 2))
        self.assert_told([(2, 12, 14)], news, FREED, [3, 0, 0], 2)
        for notice, course in (
            (0, None), (4, None), (5, [3, 0, 0]), (6, [2, 0, 0]), (7, [1, 1, 0]), (8, [0, 2, 0]), (60, [0, 2, 0]),
        ):
            self.assert_told(course, late_news, FREED, 2, notice)
        self.assertIs(is_misleading(FREED, 2, "least", 7, [1, 1, 0]), True)
        self.assertIs(is_misleading(FREED, 2, "least", 6, [1, 1, 0]), False)

    def test_a_moment_is_of_rides_that_are_run(self):
        plan = put_part(FREED, "remedies", ((0, ("cut", 0, 0)),))
        self.assertEqual([0, 0, 0, 12], [moment(plan, [3, 0, 0], many) for many in range(4)])
        self.assertEqual([0, 0, 8, 14], [moment(FREED, [3, 0, 0], many) for many in range(4)])
        self.assertEqual([(12, 12)] * 3, [window(plan, [3, 0, 0], many, 2) for many in range(3)])

    def test_what_is_heard_is_known_from_the_beginning_on(self):
        plan = put_part(FREED, "heard", (2, 3))
        self.assertEqual([(12, 12)] * 3, [window(plan, [2, 3, 0], many, 2) for many in range(3)])
        self.assertEqual([12] * 3, [said(plan, [2, 3, 0], many, 2, "now") for many in range(3)])
        self.assert_told([], news, plan, [2, 3, 0], 2)
        self.assert_told(None, misled, plan, 2)
        one = put_part(FREED, "heard", (2,))
        self.assertEqual([13, 13, 12], [said(one, [2, 3, 0], many, 2, "now") for many in range(3)])
        self.assert_told([2, 3, 0], misled, one, 2)
        self.assert_told([2, 3, 0], misled, FREED, 2)
        self.assert_told([3, 2, 0], misled, put_part(FREED, "heard", (3,)), 2)

    def test_delays_behind_the_ride_are_noughts_but_for_what_is_heard(self):
        plan = plan_of(
            [((0, 1), (5,), ()), ((1, 2), (5,), ())], [(0, (0,)), (1, (10,)), (1, (30,))], bounds=((9,), (9,), (9,)), budget=20,
            blocks=(("block", (0, 1), (0,), None), ("block", (2,), (), None)),
        )
        self.assert_told([6, 0, 0], late_news, plan, 1, 60)
        # At 0 it is known that the second ride leaves at 11 or later: told 10, the notice 11 is late.
        self.assert_told(None, late_news, plan, 1, 10)
        self.assert_told([6, 0, 0], late_news, plan, 1, 11)
        self.assert_told(None, late_news, put_part(plan, "heard", (6, 2, 3)), 1, 60)
        later = put_part(plan, "blocks", (("block", (0,), (), None), ("block", (1, 2), (15,), None)))
        self.assert_told([0, 1, 0], late_news, later, 2, 60)
        self.assert_told([6, 0, 0], late_news, put_part(plan, "heard", (6,))[:10] + ((), ()), 1, 60)

    def test_now_misleads_at_the_very_minute_of_the_departure(self):
        # The third ride leaves at 16 behind 14 minutes of its vehicle: then "now" says 17, and the last one leaves at 16.
        plan = plan_of(
            [((0, 1, 2), (1, 1), (0,)), ((2, 3), (5,), ()), ((0, 1, 2), (5, 5), (0,)), ((3, 0), (5,), ())],
            [(0, (0, 1)), (1, (3,)), (2, (4, 9)), (3, (16,))], blocks=alone((0, 1), (2,), (3,)),
            meets=(("meet", 2, 1, 3, 0, 3, "news"),), bounds=((9, 9), (0,), (3, 3), (0,)), budget=20, walk=1,
        )
        for second, told in ((4, True), (5, True), (6, False)):
            course = [9, second, 0, 2, 3, 0]
            self.assertEqual(11 + second, moment(plan, course, 4))
            self.assertEqual(17, said(plan, course, 4, 5, "now"))
            self.assertEqual((16, 16), window(plan, course, 5, 5))
            self.assertIs(is_misleading(plan, 5, "now", 0, course), told)

    def test_first_ride(self):
        self.assert_told((0, 0), window, FREED, [0, 0, 0], 0, 0)
        self.assert_told([], news, FREED, [1, 0, 0], 0)
        self.assert_told(None, late_news, FREED, 0, 60)
        self.assert_told(None, misled, FREED, 0)
        self.assert_told([[((), 0, 0, 0)]], sign_book, FREED, 0, "least", 60)
        self.assert_told([[((), 0, (), 0)]], sign_book, FREED, 0, "now", 0)

    def test_stairs(self):
        # Behind the first ride "now" says 13 at 0; behind the second one the moment is 7.
        book = sign_book(put_part(FREED, "meets", (("meet", 0, 1, 1, 0, 6, "blind"),)), 2, "now", 0)
        self.assertEqual(((), 0, ((0, 12),), 0), book[0][0])
        self.assertEqual([((0, 12),), ((0, 12),), ((0, 13),), ((0, 14),)], [row[2] for row in book[1]])


class Errors(Case):
    def test_no_plans(self):
        for value in OTHERS + [UNSOUND]:
            for call, many in ((moment, 2), (window, 3), (said, 4), (news, 2), (late_news, 2), (misled, 1)):
                self.assert_error(InvalidPlan, [value], call, value, *[None] * many)
            for call, many in ((is_misleading, 4), (sign_book, 3), (is_sign_book, 4)):
                self.assert_error(InvalidPlan, [value], call, value, *[None] * many)

    def test_no_courses_and_prefixes(self):
        for value in OTHERS + [[4, 0, 0], [0, 0], [3, 3, 0]]:
            for call, many in ((moment, 1), (window, 2), (said, 3), (news, 1)):
                self.assert_error(InvalidCourse, [value], call, FREED, value, *[None] * many)
        for value in NO_INTEGERS + [-1, 4, 10 ** 29]:
            for call, many in ((moment, 0), (window, 1), (said, 2)):
                self.assert_error(InvalidMany, [value], call, FREED, [0, 0, 0], value, *[None] * many)
        self.assert_told(12, moment, FREED, (0, 0, 0), 3)

    def test_no_rides(self):
        cut = put_part(FREED, "remedies", ((0, ("cut", 0, 0)),))
        course = [0, 0, 0]
        for value in NO_INTEGERS + [-1, 3, 10 ** 29, "1"]:
            self.assert_no_ride(FREED, value, course)
        self.assert_no_ride(cut, 1, course)
        for many, ride in ((1, 0), (2, 1), (3, 2), (2, 0)):
            self.assert_error(InvalidRide, [ride], window, FREED, course, many, ride)
            self.assert_error(InvalidRide, [ride], said, FREED, course, many, ride, None)

    def assert_no_ride(self, plan, value, course):
        self.assert_error(InvalidRide, [value], window, plan, course, 0, value)
        self.assert_error(InvalidRide, [value], said, plan, course, 0, value, None)
        self.assert_error(InvalidRide, [value], news, plan, course, value)
        self.assert_error(InvalidRide, [value], late_news, plan, value, None)
        self.assert_error(InvalidRide, [value], misled, plan, value)
        for call, many in ((is_misleading, 3), (sign_book, 2), (is_sign_book, 3)):
            self.assert_error(InvalidRide, [value], call, plan, value, *[None] * many)

    def test_no_words(self):
        for value in OTHERS + ["Least", "NOW", "now ", b"now", ["now"], "most"]:
            self.assert_error(InvalidSign, [value], said, FREED, [0, 0, 0], 0, 2, value)
            for call, many in ((is_misleading, 2), (sign_book, 1), (is_sign_book, 2)):
                self.assert_error(InvalidSign, [value], call, FREED, 2, value, *[None] * many)

    def test_no_notices(self):
        for value in NO_INTEGERS + [-1, 61, 10 ** 29]:
            self.assert_error(InvalidNotice, [value], late_news, FREED, 2, value)
            for word in ("least", "now"):
                for call, more in ((is_misleading, [None]), (sign_book, []), (is_sign_book, [None])):
                    self.assert_error(InvalidNotice, [value], call, FREED, 2, word, value, *more)
        for call, more in ((is_misleading, [None]), (sign_book, []), (is_sign_book, [None])):
            self.assert_error(InvalidNotice, [1], call, FREED, 2, "now", 1, *more)
        self.assert_told([0, 2, 0], late_news, FREED, 2, 60)
        self.assert_told(None, late_news, FREED, 2, Few.TWO)

    def test_by_name_and_plain(self):
        course = [2, 3, 0]
        self.assert_by_name(moment, plan=FREED, course=course, many=2)
        self.assert_by_name(window, plan=FREED, course=course, many=1, ride=2)
        self.assert_by_name(said, plan=FREED, course=course, many=1, ride=2, word="now")
        self.assert_by_name(news, plan=FREED, course=[1, 1, 0], ride=2)
        self.assert_by_name(late_news, plan=FREED, ride=2, notice=7)
        self.assert_by_name(misled, plan=FREED, ride=2)
        self.assert_by_name(is_misleading, plan=FREED, ride=2, word="now", notice=0, value=course)
        self.assert_by_name(sign_book, plan=FREED, ride=2, word="least", notice=2)
        book = sign_book(FREED, 2, "least", 2)
        self.assert_by_name(is_sign_book, plan=FREED, ride=2, word="least", notice=2, value=book)
        self.assert_same((12, 15), window(FREED, [Few.TWO, 0, 0], Few.ONE, Few.TWO))
        self.assert_same([(2, 12, 13)], news(FREED, [Few.TWO, Few.NONE, Few.NONE], Few.TWO))
        self.assert_same(7, moment(FREED, [Few.TWO, Few.NONE, Few.NONE], Few.TWO))
        heard = put_part(FREED, "heard", (Few.ONE,))
        self.assert_same([[((), 0, 0, 12)], [((1,), 1, 0, 12)]], [rows[:1] for rows in sign_book(heard, Few.TWO, "least", 0)][:2])
        self.assert_same([1, 1, 0], late_news(heard, 2, 7))


class Misleading(Case):
    def test_values_that_are_no_course(self):
        for word in ("least", "now"):
            for value in OTHERS + [[2, 3], [2, 3, 0, 0], [2, 4, 0], [3, 3, 0], [2, True, 0]]:
                self.assertIs(is_misleading(FREED, 2, word, 0, value), False)
        self.assertIs(is_misleading(FREED, 2, "now", 0, (2, 3, 0)), True)
        self.assertIs(is_misleading(FREED, 2, "now", 0, [2, 3, 0]), True)
        self.assertIs(is_misleading(FREED, 2, "now", 0, [2, 0, 0]), False)


class Books(Case):
    """Judged: what the program tells, and what is near to it."""

    def cases(self):
        found = []
        for plan in (FREED, with_budget(TWO_FEEDERS, 2), with_budget(overview(), 4), with_budget(case_e((1, 1, 2)), 3)):
            for ride in range(len(all_rides(plan[3]))):
                for word, notice in (("least", 0), ("least", 3), ("now", 0)):
                    book = sign_book(plan, ride, word, notice)
                    if book is not None and ride > 0:
                        found.append((plan, ride, word, notice, book))
        return found

    def test_there_are_some_of_both(self):
        words = [case[2] for case in self.cases()]
        self.assertGreater(words.count("least"), 5)
        self.assertGreater(words.count("now"), 4)

    def test_rows_left_out_and_twice(self):
        for plan, ride, word, notice, book in self.cases():
            for at, rows in enumerate(book):
                for row in range(len(rows)):
                    less = put(book, (at,), rows[:row] + rows[row + 1:])
                    self.assertIs(is_sign_book(plan, ride, word, notice, less), False)
                    twice = put(book, (at,), rows[:row + 1] + rows[row:])
                    self.assertIs(is_sign_book(plan, ride, word, notice, twice), False)
                if len(rows) > 1:
                    self.assertIs(is_sign_book(plan, ride, word, notice, put(book, (at,), rows[::-1])), False)

    def test_numbers_one_more_or_less(self):
        for plan, ride, word, notice, book in self.cases():
            for path in paths(book):
                if len(path) < 3 or not isinstance(self.part(book, path), int) or path[1] > 1:
                    continue
                for add in (-1, 1):
                    other = put(book, path, self.part(book, path) + add)
                    self.assertIs(is_sign_book(plan, ride, word, notice, other), self.judged(plan, ride, word, notice, other))

    def part(self, value, path):
        for at in path:
            value = value[at]
        return value

    def judged(self, plan, ride, word, notice, book):
        """The definition once more, of lists that have the right kinds of parts."""
        budget, heard, bounds = plan[8][1], plan[10], let_bounds(plan)
        shapes = [Reckoned(plan, [*heard] + [0] * (len(bounds) - len(heard)))]
        if any(rows != sorted(rows) or len({row[:3] for row in rows}) < len(rows) for rows in book):
            return False
        for at, rows in enumerate(book):
            for row in rows:
                if not self.is_row(plan, at, word, row, budget):
                    return False
        tables = [{row[:3]: row[3] for row in rows} for rows in book]
        first = first_standing(plan)
        if word == "least" and (first, 0, 0) not in tables[0]:
            return False
        if word == "now":
            said_first = said(plan, shapes[0].delay.values() and [shapes[0].delay[r] for r in shapes[0].rides], 0, ride, "now")
            stairs = ((0, said_first),) if said_first > 0 else ()
            if tables[0].get((first, 0, stairs)) != 0:
                return False
        for at, table in enumerate(tables):
            for row, last in table.items():
                if at == ride:
                    leaves = step(plan, ride, row[0], 0)[1][0]
                    if word == "least" and last != leaves:
                        return False
                    if word == "now" and any(pair[0] <= leaves < pair[1] for pair in row[2]):
                        return False
                elif not self.goes_on(plan, ride, word, notice, at, row, last, tables[at + 1]):
                    return False
        return True

    def is_row(self, plan, at, word, row, budget):
        try:
            step_possible = at >= len(let_bounds(plan)) or step(plan, at, row[0], 0)
        except ValueError:
            return False
        if not step_possible or min(row[1], row[3]) < 0:
            return False
        if word == "least":
            return row[1] <= budget and row[2] >= 0
        stairs = row[2]
        rising = all(one[0] < two[0] and one[1] < two[1] for one, two in zip(stairs, stairs[1:]))
        return row[3] <= budget and rising and all(0 <= pair[0] < pair[1] for pair in stairs)

    def goes_on(self, plan, ride, word, notice, at, row, last, behind):
        spent = row[1] if word == "least" else last
        told = []
        for delay in range(let_bounds(plan)[at] + 1):
            if spent + delay > plan[8][1] or (at < len(plan[10]) and delay != plan[10][at]):
                continue
            held, times, _, _ = step(plan, at, row[0], delay)
            if word == "least":
                key = (held, spent + delay, max(row[2], times[0] or 0))
                if key not in behind:
                    return False
                told.append((behind[key], key[2]))
            else:
                moment_then = max(row[1], times[0] or 0)
                key = (held, moment_then, self.with_pair(row[2], (moment_then, self.now(plan, at + 1, held, ride))))
                if behind.get(key, 99) > last + delay:
                    return False
        if word == "least":
            if not told or min(told)[0] != last:
                return False
            return not any(new > last and then + notice > last for new, then in told)
        return True

    def now(self, plan, at, held, ride):
        while at < ride:
            held = step(plan, at, held, plan[10][at] if at < len(plan[10]) else 0)[0]
            at += 1
        return step(plan, ride, held, 0)[1][0]

    def with_pair(self, stairs, pair):
        pairs = set(stairs) | ({pair} if pair[1] > pair[0] else set())
        return tuple(sorted(
            one for one in pairs if not any(other != one and other[0] <= one[0] and other[1] >= one[1] for other in pairs)
        ))

    def test_rows_put_in(self):
        # A row of any standing, with all that comes of it; and without.
        rng = random.Random(5)
        for plan, ride, word, notice, book in self.cases():
            for _ in range(6):
                at = rng.randrange(ride + 1)
                old = rng.choice(book[at])
                held = tuple(number + rng.choice([0, 0, 1, 2]) for number in old[0])
                if word == "least":
                    new = (held, rng.randint(0, plan[8][1]), old[2] + rng.randint(0, 2), old[3] + rng.choice([0, 0, 1]))
                else:
                    new = (held, old[1] + rng.randint(0, 1), old[2], rng.randint(0, plan[8][1]))
                other = put(book, (at,), sorted({row[:3]: row for row in [new] + book[at]}.values()))
                self.assertIs(is_sign_book(plan, ride, word, notice, other), self.judged(plan, ride, word, notice, other))

    def test_tuples_for_lists_and_lists_for_tuples(self):
        for plan, ride, word, notice, book in self.cases():
            self.assertIs(is_sign_book(plan, ride, word, notice, tuple(map(tuple, book))), True)
            self.assertIs(is_sign_book(plan, ride, word, notice, listed(tuple(map(tuple, book)))), False)
            self.assertIs(is_sign_book(plan, ride, word, notice, put(book, (0, 0), list(book[0][0]))), False)
            self.assertIs(is_sign_book(plan, ride, word, notice, put(book, (1, 0, 0), list(book[1][0][0]))), False)
            if word == "now":
                self.assertIs(is_sign_book(plan, ride, word, notice, put(book, (0, 0, 2), list(book[0][0][2]))), False)
            for more in (book[:-1], book + [book[-1]], book + [[]], [[]] * (ride + 1), []):
                self.assertIs(is_sign_book(plan, ride, word, notice, more), False)

    def test_values_of_all_kinds(self):
        for plan, ride, word, notice, book in self.cases()[::3]:
            for value in OTHERS:
                self.assertIs(is_sign_book(plan, ride, word, notice, value), False)
            for path in paths(book):
                if path and (len(path) == 1 or path[1] == 0) and isinstance(self.part(book, path), (int, list)) and path[0] < 2:
                    for value in NO_INTEGERS:
                        other = put(book, path, value)
                        self.assertIs(is_sign_book(plan, ride, word, notice, other), False)

    def test_pairs_that_are_none(self):
        # Rows with these pairs in all lists, so that what comes of each is there; the first pair makes all new ones needless.
        plan = put_part(FREED, "meets", ())
        book = sign_book(plan, 2, "now", 0)
        self.assertEqual(((), 0, ((0, 12),), 0), book[0][0])
        for pairs, told in (
            ((), True), (((20, 30),), True), (((20, 30), (21, 31)), True), (((0, 12),), False), (((20, 30), (20, 31)), False),
            (((20, 30), (21, 30)), False), (((20, 30), (21, 29)), False), (((20, 20),), False), (((20, 19),), False), (((20, 30, 0),), False),
            (((20,),), False), ((20, 30), False), (([20, 30],), False), (((20, True),), False), (((20, "a"),), False), (((20, None),), False),
            (((True, 30),), False), (((None, 30),), False), ((None,), False), (((20, 30), (25, 26)), False), (((21, 31), (20, 30)), False),
        ):
            stairs = ((0, 12),) + pairs
            more = [rows + [row[:2] + (stairs, row[3]) for row in rows if stairs != ((0, 12),)] for rows in book]
            try:
                more = [sorted(rows) for rows in more]
            except TypeError:
                more = [sorted(rows, key=lambda row: (row[:2], row[2] != ((0, 12),), row[3])) for rows in more]
            if pairs == ((0, 12),):
                self.assertEqual(((0, 12), (0, 12)), more[0][1][2])
            self.assertIs(is_sign_book(plan, 2, "now", 0, more), told, pairs)
        early = ((-5, -1), (0, 12))
        more = [sorted(rows + [row[:2] + (early, row[3]) for row in rows]) for rows in book]
        self.assertIs(is_sign_book(plan, 2, "now", 0, more), False)
        listed_stairs = [sorted(rows[:-1]) + [rows[-1][:2] + (list(rows[-1][2]), rows[-1][3])] for rows in book]
        self.assertIs(is_sign_book(plan, 2, "now", 0, listed_stairs), False)

    def test_numbers_below_0_in_the_last_list(self):
        # Behind which nothing comes.
        for word, rows, told in (
            ("least", ((), 0, 12, 12), True), ("least", ((), -1, 12, 12), False), ("least", ((), 0, -1, 12), False),
            ("least", ((), 5, 12, 12), True), ("least", ((), 6, 12, 12), False), ("least", ((), 5, 12, 13), False), ("least", ((), 5, 12, 11), False),
            ("now", ((), 90, (), 0), True), ("now", ((), -1, (), 0), False), ("now", ((), 90, (), -1), False), ("now", ((), 90, (), 5), True),
            ("now", ((), 90, (), 6), False),
        ):
            plan = put_part(FREED, "meets", ())
            book = sign_book(plan, 2, word, 0)
            others = [row for row in book[2] if row[:3] != rows[:3]]
            self.assertIs(is_sign_book(plan, 2, word, 0, book[:2] + [sorted(others + [rows])]), told, rows)

    def test_rows_of_other_lengths_and_rows_twice(self):
        for plan, ride, word, notice, book in self.cases():
            for at, rows in enumerate(book):
                for row in range(min(2, len(rows))):
                    for other in (rows[row] + (0,), rows[row][:3], rows[row] + rows[row]):
                        self.assertIs(is_sign_book(plan, ride, word, notice, put(book, (at, row), other)), False)
                    less = rows[row][:3] + (rows[row][3] - 1,)
                    if less[3] >= 0:
                        twice = put(book, (at,), sorted(rows + [less]))
                        self.assertIs(is_sign_book(plan, ride, word, notice, twice), False)

    def test_stairs_of_rows_that_no_course_comes_to(self):
        # A pair of a later moment than the row's own; what comes of it stands ahead of it.
        plan = put_part(FREED, "meets", ())
        book = sign_book(plan, 2, "now", 0)
        more = [sorted(rows + [row[:2] + (row[2] + ((50, 60),), row[3]) for row in rows]) for rows in book]
        more[0] = sorted(book[0] + [((), 0, ((50, 60),), 0)])
        self.assertIs(is_sign_book(plan, 2, "now", 0, more), True)
        self.assertEqual(((0, 12), (50, 60)), more[1][1][2])
        # Another one that makes it needless: of no later moment, and no lesser minute.
        more[0] = sorted(book[0] + [((), 0, ((0, 11), (50, 60)), 0)])
        self.assertIs(is_sign_book(plan, 2, "now", 0, more), True)
        more[0] = sorted(book[0] + [((), 0, ((0, 13), (50, 60)), 0)])
        self.assertIs(is_sign_book(plan, 2, "now", 0, more), False)

    def test_a_book_of_another_notice(self):
        book = sign_book(FREED, 2, "least", 0)
        for notice in range(12):
            self.assertIs(is_sign_book(FREED, 2, "least", notice, book), late_news(FREED, 2, notice) is None)

    def test_nothing_is_let(self):
        # What is heard is beyond the budget from another row on: in a book of "now" it may stand, in one of "least" not.
        plan = put_part(FREED, "heard", (2, 3))
        for word in ("least", "now"):
            book = sign_book(plan, 2, word, 0)
            self.assertIs(is_sign_book(plan, 2, word, 0, book), True)
            held, second, third, last = book[1][0]
            if word == "least":
                more = put(book, (1,), book[1] + [(held, 3, third, last)])
            else:
                more = put(book, (1,), sorted(book[1] + [(held, 4, third, 3)]))
            self.assertIs(is_sign_book(plan, 2, word, 0, more), word == "now")


class Limits(Case):
    def test_windows(self):
        plan, many = wide((1, 6, 6, 6, 6), 16), [0] * 6
        self.assert_error(TooMany, ["standings", 4000], window, plan, many, 0, 5)
        self.assert_error(TooMany, ["standings", 4000], said, plan, many, 0, 5, "least")
        self.assert_error(TooMany, ["standings", 4000], news, plan, many, 5)
        self.assertEqual(160, said(plan, many, 0, 5, "now"))
        # Begun further on, or ended sooner, there are fewer rows.
        self.assertEqual((160, 160), window(plan, many, 1, 5))
        self.assertEqual((120, 120), window(plan, many, 0, 4))
        self.assertEqual([], news(plan, many, 4))

    def test_steps_of_windows(self):
        plan = wide((7, 6, 8, 0, 1, 6) + (0,) * 9, 14)
        course = [0] * 16
        sizes = table_sizes((7, 6, 8, 0, 1, 6) + (0,) * 9, 14)
        self.assertEqual(40000, sum(sizes[:-1]))
        self.assertEqual((460, 460), window(plan, course, 0, 15))
        self.assertEqual([], news(plan, course, 15))
        both = wide((7, 6, 8, 1, 6) + (0,) * 10, 14)
        self.assertLessEqual(max(table_sizes((7, 6, 8, 1, 6), 14)), 4000)
        self.assert_error(TooMany, ["steps", 40000], window, both, course, 0, 15)
        self.assert_error(TooMany, ["steps", 40000], news, both, course, 15)
        self.assert_error(TooMany, ["steps", 40000], said, both, course, 0, 15, "least")

    def test_cases(self):
        plan = wide((1, 6, 6, 6, 6), 16)
        for told in ((late_news, 5, 3), (misled, 5), (sign_book, 5, "least", 60), (sign_book, 5, "now", 0)):
            self.assert_error(TooMany, ["standings", 4000], told[0], plan, *told[1:])
        for told in ((late_news, 4, 3), (misled, 4), (sign_book, 4, "least", 60), (sign_book, 4, "now", 0)):
            self.assertNotEqual(7, told[0](plan, *told[1:]))
        both = wide((7, 6, 8, 1, 6) + (0,) * 10, 14)
        for told in ((late_news, 15, 3), (misled, 15), (sign_book, 15, "least", 60), (sign_book, 15, "now", 0)):
            self.assert_error(TooMany, ["steps", 40000], told[0], both, *told[1:])

    def test_rows_have_more_than_the_standing(self):
        # The standings are few, as each end is asked by the next ride alone; but the minutes spent are unlike.
        many = 15
        trips = [(0, (30 * at,)) for at in range(many)]
        plan = plan_of([((0, 1), (10,), ())], trips, bounds=((9,),) * many, budget=20)
        self.assertIsNone(late_news(plan, many - 1, 0))
        self.assertIsNone(misled(plan, many - 1))

    def test_judges(self):
        plan = wide((1, 6, 6, 6, 6), 16)
        course = [0] * 6
        self.assert_error(TooMany, ["standings", 4000], is_misleading, plan, 5, "least", 0, course)
        self.assertIs(is_misleading(plan, 5, "least", 0, course[1:]), False)
        self.assertIs(is_misleading(plan, 5, "now", 0, course), False)
        for word in ("least", "now"):
            self.assertIs(is_sign_book(plan, 5, word, 0, [[]] * 6), False)
            still = sign_book(with_budget(plan, 0), 5, word, 0)
            self.assertIs(is_sign_book(plan, 5, word, 0, still), False)
            self.assertIs(is_sign_book(with_budget(plan, 0), 5, word, 0, still), True)


if __name__ == "__main__":
    unittest.main()
