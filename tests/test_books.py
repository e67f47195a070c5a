"""[45] to [48]: reached tables, books, and their limits."""

import unittest

from citylines.books import book, is_book, reached
from citylines.errors import InvalidPlan, TooMany
from citylines.fields import first_standing, standing, step
from citylines.plans import with_budget
from helpers import Case, Few, NO_INTEGERS, OTHERS, listed, paths, put
from reckon import Reckoned, courses, fields_at, let_bounds, prefixes, standing_of
from some_plans import (
    ROWS_4000, ROWS_4001, STEPS_40000, STEPS_40001, made, put_part, table_sizes, wide,
)
from told_plans import CASE_A, CASE_B, CASE_D, CHARGED, SLACK, case_e, overview, plan_of

UNSOUND = put_part(CASE_B, "promises", (("driven", 1, 29),))


def tables_by_courses(plan):
    """The reached tables, and whether anything breaks: by going through all courses."""
    many = len(let_bounds(plan))
    tables = [{} for _ in range(many + 1)]
    broken = False
    shapes = [fields_at(plan, at) for at in range(many + 1)]
    for course in courses(plan):
        known = Reckoned(plan, course)
        broken = broken or bool(known.breaks)
        for at in range(many + 1):
            key = standing_of(known, shapes[at], at)
            tables[at][key] = min(sum(course[:at]), tables[at].get(key, 99))
    return [sorted(table.items()) for table in tables], broken


def some_kept(count):
    """Plans without a break, with a few rows each."""
    found, number = [], 0
    while len(found) < count:
        plan = made(number, rides=4)
        tables = book(plan)
        if tables is not None and sum(len(table) for table in tables) in range(8, 40):
            found.append((plan, tables))
        number += 1
    return found


class Reached(Case):
    def test_against_all_courses(self):
        broken = 0
        for number in range(110):
            plan = made(number, rides=5)
            tables, breaks = tables_by_courses(plan)
            self.assert_told(tables, reached, plan)
            self.assert_told(None if breaks else tables, book, plan)
            self.assertIs(is_book(plan, tables), not breaks)
            broken += breaks
        self.assertGreater(broken, 15)

    def test_the_documents_plans(self):
        for plan in (CASE_A, CASE_B, CASE_D, CHARGED, SLACK, case_e(None), case_e((1, 1, 2)), overview()):
            tables, breaks = tables_by_courses(plan)
            self.assert_told(tables, reached, plan)
            self.assertIs(book(plan) is None, breaks)

    def test_the_overview(self):
        rows = [((0, 0), 0), ((1, 0), 1), ((2, 0), 2), ((3, 0), 3)]
        self.assert_told([[((), 0)], rows, [((), 0)]], reached, overview(budget=3))
        self.assert_told([[((), 0)], rows, [((), 0)]], book, overview(budget=3))
        self.assert_told([[((), 0)], rows + [((4, 0), 4), ((5, 0), 5)], [((), 0)]], reached, overview())
        self.assert_told(None, book, overview())

    def test_what_is_heard(self):
        plan = put_part(overview(), "heard", (3,))
        self.assert_told([[((), 0)], [((3, 0), 3)], [((), 3)]], book, plan)
        self.assert_told(None, book, put_part(plan, "heard", (4,)))
        self.assert_told([[((), 0)], [((5, 0), 5)], [((), 5)]], book, put_part(plan, "heard", (5, 0)))

    def test_breaks_behind_any_delay_that_is_let(self):
        # The last minute of the budget alone breaks; the plan's last ride, with its own delay.
        plan = plan_of([((0, 1), (5,), ())], [(0, (0,))], bounds=((9,),), budget=3, promises=(("ends", 0, 2),))
        self.assert_told(None, book, plan)
        self.assert_told([[((), 0)], [((), 0)]], book, with_budget(plan, 2))

    def test_no_plans(self):
        for value in OTHERS + [UNSOUND]:
            for call in (reached, book):
                self.assert_error(InvalidPlan, [value], call, value)
            self.assert_error(InvalidPlan, [value], is_book, value, None)

    def test_by_name(self):
        plan = overview(budget=3)
        self.assert_by_name(reached, plan=plan)
        self.assert_by_name(book, plan=plan)
        self.assert_by_name(is_book, plan=plan, value=reached(plan))

    def test_plain(self):
        plan = put_part(overview(), "delays", (((Few.ONE,), (0,)), Few.TWO))
        self.assert_same([[((), 0)], [((0, 0), 0), ((1, 0), 1)], [((), 0)]], book(plan))
        plan = put_part(put_part(plan, "heard", (Few.ONE,)), "spares", (Few.TWO, 0, 0))
        self.assert_same([[((2,), 0)], [((1, 0, 2), 1)], [((2,), 1)]], book(plan))


class Books(Case):
    def test_rows_left_out(self):
        for plan, tables in some_kept(12):
            self.assert_yes(is_book, plan, tables)
            for at, table in enumerate(tables):
                for row in range(len(table)):
                    self.assert_no(is_book, plan, put(tables, (at,), table[:row] + table[row + 1:]))
                    self.assert_no(is_book, plan, put(tables, (at,), table[:row + 1] + table[row:]))

    def test_numbers_one_more_or_less(self):
        for plan, tables in some_kept(12):
            for at, table in enumerate(tables):
                for row, (held, number) in enumerate(table):
                    more = put(tables, (at, row, 1), number + 1)
                    self.assertIs(is_book(plan, more), False, (at, row))
                    less = put(tables, (at, row, 1), number - 1)
                    if number == 0 or at == 0:
                        self.assert_no(is_book, plan, less)
                    else:
                        self.assertIs(is_book(plan, less), self.closes(plan, less))

    def closes(self, plan, tables):
        """Whether tables of the right form close, by the second condition itself."""
        heard, bounds, budget = plan[10], let_bounds(plan), plan[8][1]
        for at, table in enumerate(tables[:-1]):
            for held, number in table:
                for delay in range(bounds[at] + 1):
                    if number + delay > budget or (at < len(heard) and delay != heard[at]):
                        continue
                    behind, _, _, breaks = step(plan, at, held, delay)
                    if breaks or dict(tables[at + 1]).get(behind, 99) > number + delay:
                        return False
        return True

    def test_rows_put_in(self):
        plan = overview(budget=3)
        tables = book(plan)
        for row, told in (
            (((5, 0), 3), True), (((5, 0), 0), True), (((4, 0), 3), False), (((6, 0), 0), True), (((3, 1), 0), True),
            (((4, 4), 0), False), (((10 ** 29, 0), 0), True), (((5, 0), 4), False), (((5, 0), -1), False), (((5,), 0), False),
            (((5, 6), 0), False), (((5, 0), 0, 0), False), (((5, 0),), False), (((5, True), 0), False), (((5, 0), False), False),
        ):
            self.assertIs(is_book(plan, put(tables, (1,), sorted(tables[1] + [row], key=lambda one: one[0]))), told, row)
        spared = case_e((1, 3, 2))
        tables = reached(spared)
        self.assert_no(is_book, spared, tables)
        spared = put_part(spared, "promises", ())
        self.assert_yes(is_book, spared, tables)
        # Another row of the first table closes, too, where all that comes of it is there.
        other = reached(put_part(spared, "spares", (0, 3, 2)))
        both = []
        for one, more in zip(tables, other):
            rows = dict(one)
            rows.update((held, min(number, rows.get(held, 99))) for held, number in more)
            both.append(sorted(rows.items()))
        self.assert_yes(is_book, spared, both)
        self.assert_no(is_book, spared, other)
        self.assert_no(is_book, spared, [other[0]] + both[1:])

    def test_rows_put_in_close_on_their_own(self):
        # Rows of any standing, with what comes of them; each of that left out again.
        for plan, tables in some_kept(6):
            for at in range(len(tables) - 1):
                for prefix in prefixes(plan, at)[:3]:
                    held = standing(plan, prefix + [0] * (len(let_bounds(plan)) - at), at)
                    if len(plan[10]) == 0 and held in dict(tables[at]):
                        moved = tuple(number + 1 if word[0] == "end" else number for word, number in zip(fields_at(plan, at), held))
                        more = put(tables, (at,), sorted(dict([(moved, plan[8][1])] + tables[at]).items()))
                        self.assertIs(is_book(plan, more), self.closes(plan, more))

    def test_unsorted_and_twice(self):
        for plan, tables in some_kept(8):
            for at, table in enumerate(tables):
                if len(table) > 1:
                    self.assert_no(is_book, plan, put(tables, (at,), table[::-1]))
                    self.assert_no(is_book, plan, put(tables, (at,), table[1:] + table[:1]))
                    self.assert_no(is_book, plan, put(tables, (at,), sorted(table + [(table[-1][0], table[-1][1] + 1)])))

    def test_tuples_for_lists_and_lists_for_tuples(self):
        for plan, tables in some_kept(4):
            self.assert_yes(is_book, plan, tuple(tables))
            self.assert_yes(is_book, plan, tuple(tuple(table) for table in tables))
            self.assert_no(is_book, plan, listed(tuple(tuple(table) for table in tables)))
            for at, table in enumerate(tables):
                self.assert_yes(is_book, plan, put(tables, (at,), tuple(table)))
                self.assert_no(is_book, plan, put(tables, (at, 0), list(table[0])))
                self.assert_no(is_book, plan, put(tables, (at, 0, 0), list(table[0][0])))

    def test_values_of_all_kinds(self):
        plan = put_part(case_e((1, 9, 2)), "promises", ())
        tables = book(plan)
        for value in OTHERS:
            self.assert_no(is_book, plan, value)
        for path in paths(tables):
            if path and path[0] in (0, 1, 3) and (len(path) < 2 or path[1] < 2):
                for value in NO_INTEGERS:
                    self.assert_no(is_book, plan, put(tables, path, value))
        self.assert_no(is_book, plan, tables[:-1])
        self.assert_no(is_book, plan, tables + [tables[-1]])
        self.assert_no(is_book, plan, tables + [[]])
        self.assert_yes(is_book, plan, put(tables, (0, 0), ((Few.ONE,), Few.NONE)))

    def test_a_first_row_with_another_number(self):
        plan = overview(budget=3)
        self.assert_no(is_book, plan, [[((), 1)]] + reached(plan)[1:])
        self.assert_no(is_book, plan, [[]] + reached(plan)[1:])

    def test_what_is_heard_is_let_alone(self):
        plan = put_part(overview(), "heard", (3,))
        self.assert_yes(is_book, plan, [[((), 0)], [((3, 0), 3)], [((), 3)]])
        self.assert_yes(is_book, plan, [[((), 0)], [((3, 0), 0)], [((), 0)]])
        self.assert_no(is_book, plan, [[((), 0)], [((3, 0), 4)], [((), 3)]])
        self.assert_no(is_book, plan, [[((), 0)], [((0, 0), 0)], [((), 0)]])
        # From a row with which what is heard is beyond the budget nothing is let.
        long = put_part(overview(wait=0), "heard", (0, 0))
        rows = [((0, 0), 0), ((4, 0), 5)]
        self.assert_yes(is_book, long, [[((), 0)], rows, [((), 0)]])

    def test_no_row_is_let_beyond_the_budget(self):
        plan = plan_of([((0, 1), (5,), ())], [(0, (0,)), (0, (20,))], bounds=((2,), (2,)), budget=3, spares=(1, 1, 1), heard=(1, 2))
        tables = reached(plan)
        self.assert_told([[((1,), 0)], [((1, 0, 1), 1)], [((1,), 3)]], reached, plan)
        for row, told in ((((0, 0, 0), 2), True), (((0, 0, 0), 1), False)):
            self.assertIs(is_book(plan, put(tables, (1,), [row] + tables[1])), told)

    def test_nothing_is_asked_of_what_is_not_let(self):
        # Both ends stand in the table at 2. From (0,) with 2 the heard 2 minutes are beyond the budget.
        plan = plan_of(
            [((0, 1), (10,), ()), ((1, 2), (10,), ())], [(0, (0,)), (0, (20,)), (1, (60,))], bounds=((2,), (2,), (0,)), budget=3,
            meets=(("meet", 0, 0, 2, 0, 0, "blind"), ("meet", 1, 0, 2, 0, 0, "blind")), heard=(1, 2),
        )
        tables = [[((), 0)], [((1, 0), 1)], [((1, 2), 3)], [((), 3)]]
        self.assert_told(tables, reached, plan)
        for number, told in ((2, True), (3, True), (1, False), (0, False)):
            self.assertIs(is_book(plan, put(tables, (1,), [((0, 0), number)] + tables[1])), told)

    def test_a_book_of_one_minute_less_shows_the_least_course(self):
        self.assertIsNone(book(with_budget(overview(), 4)))
        self.assertTrue(is_book(with_budget(overview(), 3), book(with_budget(overview(), 3))))

    def test_first_standing_stands_in_it(self):
        for plan, tables in some_kept(5):
            self.assertEqual([(first_standing(plan), 0)], tables[0])


class Limits(Case):
    def assert_sizes(self, bounds, budget):
        sizes = table_sizes(bounds, budget)
        self.assertEqual(sizes, [len(table) for table in reached(wide(bounds, budget))])
        return sizes

    def assert_too_many(self, what, limit, bounds, budget):
        for call in (reached, book):
            self.assert_error(TooMany, [what, limit], call, wide(bounds, budget))

    def test_standings(self):
        self.assertEqual(4000, max(self.assert_sizes(*ROWS_4000)))
        self.assertEqual(4001, max(table_sizes(*ROWS_4001)))
        self.assert_too_many("standings", 4000, *ROWS_4001)

    def test_steps(self):
        self.assertEqual(40000, sum(self.assert_sizes(*STEPS_40000)))
        self.assertEqual(40001, sum(table_sizes(*STEPS_40001)))
        self.assertLessEqual(max(table_sizes(*STEPS_40001)), 4000)
        self.assert_too_many("steps", 40000, *STEPS_40001)

    def test_the_first_table_decides(self):
        bounds, budget = (5, 4, 6, 9, 1) + (0,) * 9 + (9,), 16
        sizes = table_sizes(bounds, budget)
        self.assertLess(max(sizes[:-2]), 4001)
        self.assertGreater(sizes[-2], 4000)
        self.assertLess(sum(sizes[:-2]), 40000)
        self.assertGreater(sum(sizes[:-1]), 40000)
        # With one table both are so.
        self.assert_too_many("standings", 4000, bounds, budget)
        bounds, budget = (1, 4, 4, 8, 9) + (0,) * 9 + (1,), 18
        sizes = table_sizes(bounds, budget)
        self.assertGreater(sum(sizes[:-2]), 40000)
        self.assertGreater(sizes[-2], 4000)
        self.assert_too_many("steps", 40000, bounds, budget)

    def test_a_break_does_not_come_ahead_of_too_many(self):
        for bounds, budget in (ROWS_4001, STEPS_40001):
            plan = wide(bounds, budget, promises=(("ends", 0, 0),))
            self.assertTrue(step(plan, 0, (), 1)[3])
            self.assertRaises(TooMany, book, plan)
        plan = wide(*ROWS_4000, promises=(("ends", 0, 0),))
        self.assertIsNone(book(plan))

    def test_judges_raise_none(self):
        plan = wide(*ROWS_4001)
        self.assert_no(is_book, plan, [])
        tables = [[((0,) * at, 0)] for at in range(6)] + [[((), 0)]]
        self.assert_no(is_book, plan, tables)
        still = with_budget(plan, 0)
        self.assertEqual(len(tables), len(reached(still)))
        self.assert_yes(is_book, still, reached(still))
        self.assert_no(is_book, plan, reached(still))
        self.assert_yes(is_book, wide(*ROWS_4000), reached(wide(*ROWS_4000)))


if __name__ == "__main__":
    unittest.main()
