"""[55] to [58]: answers, least books, plans alike, parting courses."""

import random
import unittest

from citylines.courses import least_course
from citylines.errors import InvalidPlan, NotCompared, TooMany
from citylines.leasts import are_alike, least_book, parting_course
from citylines.plans import is_plan, with_budget
from helpers import Case, Few, OTHERS
from reckon import Reckoned, courses, least_of, let_bounds
from some_plans import made, put_part, wide
from told_plans import CASE_A, CASE_B, CASE_C, CASE_D, CHARGED, SLACK, case_e, overview, plan_of

UNSOUND = put_part(CASE_B, "promises", (("driven", 1, 29),))


def answers(plan, course):
    """For each ride, in the sequence, what it answers in the course."""
    known, found = Reckoned(plan, course), []
    for at, ride in enumerate(known.rides):
        made_meets = tuple(m for m, meet in enumerate(known.meets) if meet[3:5] == ride and known.made.get(m))
        found.append((made_meets, tuple((promise, by) for position, promise, by in known.breaks if position == at)))
    return tuple(found)


def all_answers(plan):
    return {tuple(course): answers(plan, course) for course in courses(plan)}


def book_of(told):
    """The least book, by the definition: lots of like prefixes, numbered by their first ones."""
    many = len(next(iter(told)))
    numbers = []
    for at in range(many + 1):
        lots, kinds = {}, {}
        for course, own in told.items():
            lots.setdefault(course[:at], {})[course[at:]] = own[at:]
        numbers.append({
            prefix: kinds.setdefault(tuple(sorted(lots[prefix].items())), len(kinds)) for prefix in sorted(lots)
        })
    found = []
    for at in range(many):
        states = {}
        for prefix in sorted(numbers[at]):
            own = {course[at]: answer[at] for course, answer in told.items() if course[:at] == prefix}
            row = tuple((numbers[at + 1][prefix + (delay,)],) + own[delay] for delay in sorted(own))
            states[numbers[at][prefix]] = row
        found.append([states[number] for number in range(len(states))])
    return found


def changed(plan, number):
    """Another plan with the same courses: of another wait, way, bound of a promise, or number of spares."""
    rng = random.Random(number)
    words = [word for word, there in (("meets", plan[6]), ("promises", plan[7]), ("spares", plan[9])) if there]
    if not words:
        return plan
    word = rng.choice(words)
    if word == "spares":
        return put_part(plan, word, (rng.randint(0, 3),) + plan[9][1:])
    rows = list(plan[6 if word == "meets" else 7])
    at = rng.randrange(len(rows))
    if word == "meets":
        rows[at] = rows[at][:5] + (rng.choice([0, 1, 2, 3]), rng.choice(["blind", "news"]))
    elif rows[at][0] != "meets":
        rows[at] = rows[at][:-1] + (rows[at][-1] + rng.choice([-1, 1]),)
    return put_part(plan, word, tuple(rows))


class Against(Case):
    def test_least_books(self):
        for number in range(160):
            plan = made(number, rides=5)
            told = all_answers(plan)
            if len(told) <= 250:
                self.assert_told(book_of(told), least_book, plan)

    def test_the_documents_plans(self):
        for plan in (CASE_A, CASE_B, CASE_C, CASE_D, CHARGED, SLACK, case_e(None), case_e((1, 1, 2)), case_e((2, 0, 0))):
            plan = with_budget(plan, min(plan[8][1], 6))
            self.assert_told(book_of(all_answers(plan)), least_book, plan)

    def test_plans_alike_and_parting_courses(self):
        parted = alike = 0
        for number in range(260):
            plan = made(number % 130, rides=5)
            other = changed(plan, number)
            if not is_plan(other) or courses(other) != courses(plan) or other == plan:
                continue
            one, two = all_answers(plan), all_answers(other)
            parting = least_of([list(course) for course in one if one[course] != two[course]])
            self.assert_told(parting is None, are_alike, plan, other)
            self.assert_told(parting is None, are_alike, other, plan)
            self.assert_told(parting, parting_course, plan, other)
            self.assert_told(parting, parting_course, other, plan)
            parted += parting is not None
            alike += parting is None
        self.assertGreater(parted, 15)
        self.assertGreater(alike, 25)

    def test_a_plan_is_alike_to_itself(self):
        for number in range(40):
            plan = made(number, rides=5)
            self.assert_told(True, are_alike, plan, plan)
            self.assert_told(None, parting_course, plan, plan)

    def test_as_many_answers_as_delays(self):
        for number in range(40):
            plan = made(number, rides=5)
            bounds = let_bounds(plan)
            for at, states in enumerate(least_book(plan)):
                for row in states:
                    self.assertIn(len(row), range(1, bounds[at] + 2))
                    if at < len(plan[10]):
                        self.assertEqual(1, len(row))


class ByHand(Case):
    def test_the_table(self):
        expected = [
            [((0, (), ()), (0, (), ()), (0, (), ()), (0, (), ()), (1, (), ()), (2, (), ()))],
            [((0, (0,), ()),), ((0, (0,), ((0, 1),)),), ((0, (), ()),)],
        ]
        self.assert_told(expected, least_book, overview())

    def test_states_by_their_first_prefixes(self):
        # Behind 0 to 2 the promise is kept, behind 3 broken, behind 4 the meet is not made; so it is with less said first.
        plan = overview(wait=2, promises=(("leaves", 1, 0, 1),))
        expected = [
            [((0, (), ()), (0, (), ()), (0, (), ()), (1, (), ()), (2, (), ()), (2, (), ()))],
            [((0, (0,), ()),), ((0, (0,), ((0, 1),)),), ((0, (), ()),)],
        ]
        self.assert_told(expected, least_book, plan)

    def test_what_is_left_of_the_budget_parts_prefixes(self):
        plan = plan_of([((0, 1), (5,), ())], [(0, (0,)), (0, (20,))], bounds=((2,), (2,)), budget=3)
        row = ((0, (), ()),)
        self.assert_told([[((0, (), ()), (0, (), ()), (1, (), ()))], [row * 3, row * 2]], least_book, plan)
        self.assert_told([[((0, (), ()),) * 3], [row * 3]], least_book, with_budget(plan, 4))
        self.assert_told([[row], [row]], least_book, with_budget(plan, 0))

    def test_what_is_heard(self):
        plan = put_part(overview(), "heard", (4,))
        self.assert_told([[((0, (), ()),)], [((0, (0,), ((0, 1),)),)]], least_book, plan)
        other = put_part(overview(promises=(("leaves", 1, 0, 3),)), "heard", (4,))
        self.assert_told([4, 0], parting_course, plan, other)
        self.assert_told(None, parting_course, *[put_part(one, "heard", (3,)) for one in (plan, other)])
        # Both answer at the first ride, and unlike; what is heard behind it stands in the course, and then noughts.
        lines, trips = [((0, 1), (5,), ())], [(0, (0,)), (0, (20,)), (0, (40,))]
        one, two = [
            plan_of(lines, trips, bounds=((9,), (9,), (9,)), budget=12, promises=(("ends", 0, late),), heard=(3, 5))
            for late in (2, 3)
        ]
        self.assert_told([3, 5, 0], parting_course, one, two)

    def test_rides_that_are_not_run(self):
        plan = put_part(overview(), "remedies", ((0, ("drop", 1)),))
        self.assert_told([[((0, (), ()),) * 6], [((0, (), ()),)]], least_book, plan)
        free = put_part(overview(), "remedies", ((0, ("free", 0)),))
        self.assert_told([[((0, (), ()),) * 6], [((0, (), ()),)]], least_book, free)
        self.assert_told(True, are_alike, plan, free)
        self.assert_told([0, 0], parting_course, plan, overview())

    def test_no_meets_no_promises(self):
        plan = overview(promises=())[:6] + ((), ()) + overview()[8:]
        self.assert_told([[((0, (), ()),) * 6], [((0, (), ()),)]], least_book, plan)

    def test_unlike_plans_that_are_alike(self):
        # A turn of a minute more that never comes to count; departures of which nothing is asked.
        one, two = [
            plan_of(
                [((0, 1), (5,), ()), ((1, 2), (5,), ())], [(0, (0,)), (1, (20,))],
                blocks=(("block", (0, 1), (turn,), None),), bounds=((9,), (0,)), budget=9, promises=(("leaves", 1, 0, 0),),
            ) for turn in (5, 6)
        ]
        self.assert_told(True, are_alike, one, two)
        later = put_part(one, "blocks", (("block", (0, 1), (7,), None),))
        self.assert_told(False, are_alike, one, later)
        self.assert_told([9, 0], parting_course, one, later)
        # Nobody asks when the second trip comes.
        bare = put_part(one, "promises", ())
        self.assert_told(True, are_alike, bare, put_part(later, "promises", ()))


class Compared(Case):
    def test_plans_that_are_not_compared(self):
        plan = overview()
        more = plan_of([((0, 1), (10,), ())], [(0, (0,)), (0, (20,)), (0, (40,))], bounds=((5,), (0,), (0,)), budget=5)
        two_meets = put_part(plan, "meets", ())
        for other in (
            more, overview(bound=4), overview(budget=4), put_part(plan, "heard", (0,)), put_part(plan, "promises", ()),
            put_part(put_part(plan, "promises", ()), "meets", ()), put_part(two_meets, "promises", (("leaves", 1, 0, 2),)),
            put_part(plan, "promises", (("leaves", 1, 0, 2), ("leaves", 1, 0, 3))), put_part(plan, "remedies", ((0, ("drop", 0)),)),
        ):
            self.assertTrue(is_plan(other))
            for one, two in ((plan, other), (other, plan)):
                for call in (are_alike, parting_course):
                    with self.assertRaises(NotCompared) as held:
                        call(one, two)
                    self.assertIs(type(held.exception), NotCompared)
        self.assertRaises(NotCompared, are_alike, put_part(plan, "heard", (0,)), put_part(plan, "heard", (1,)))

    def test_bounds_count_in_the_sequence(self):
        # The bounds stand at other trips, but at the same positions.
        lines = [((0, 1), (5,), ()), ((1, 2), (5,), ())]
        one = plan_of(lines, [(0, (0,)), (1, (20,))], bounds=((3,), (1,)), budget=3)
        two = plan_of(lines, [(0, (20,)), (1, (0,))], bounds=((1,), (3,)), budget=3)
        self.assert_told(True, are_alike, one, two)
        three = plan_of(lines, [(0, (20,)), (1, (0,))], bounds=((3,), (1,)), budget=3)
        self.assertRaises(NotCompared, are_alike, one, three)

    def test_bounds_are_0_of_rides_that_are_not_run(self):
        dropped = put_part(overview(), "remedies", ((0, ("drop", 0)),))
        self.assert_told(False, are_alike, dropped, overview(bound=0))
        self.assert_told([0, 0], parting_course, dropped, overview(bound=0))

    def test_no_plans(self):
        for value in OTHERS + [UNSOUND]:
            self.assert_error(InvalidPlan, [value], least_book, value)
            for call in (are_alike, parting_course):
                self.assert_error(InvalidPlan, [value], call, value, None)
                self.assert_error(InvalidPlan, [value], call, overview(), value)

    def test_by_name_and_plain(self):
        loose = overview(promises=(("leaves", 1, 0, 3),))
        self.assert_by_name(least_book, plan=overview())
        self.assert_by_name(are_alike, plan=overview(), other=loose)
        self.assert_by_name(parting_course, plan=overview(), other=loose)
        self.assert_told([4, 0], parting_course, overview(), loose)
        self.assertIsNone(least_course(loose))
        heard = [put_part(plan, "heard", (Few.TWO,)) for plan in (overview(), overview(wait=0))]
        self.assert_same([[((0, (), ()),)], [((0, (0,), ()),)]], least_book(heard[0]))
        self.assert_same([2, 0], parting_course(*heard))


def spent_sizes(bounds, budget):
    """How many unlike (standing, minutes) of a `wide` plan there are: behind its last ride one for each sum."""
    sizes, sums = [1], {(): 0}
    for bound in bounds:
        sums = {key + (delay,): spent + delay for key, spent in sums.items() for delay in range(min(bound, budget - spent) + 1)}
        sizes.append(len(sums))
    return sizes + [len(set(sums.values()))]


class Limits(Case):
    def test_standings(self):
        plan = wide((1, 4, 4, 8, 9), 18)
        self.assertEqual(4000, max(spent_sizes((1, 4, 4, 8, 9), 18)))
        self.assertTrue(least_book(plan))
        over = wide((1, 6, 6, 6, 6), 16)
        for call, *more in ((least_book,), (are_alike, over), (parting_course, over), (are_alike, plan), (parting_course, plan)):
            if call is least_book or more[0] is over:
                self.assert_error(TooMany, ["standings", 4000], call, over, *more)

    def test_minutes_spent_count(self):
        # All standings of one table are the same, but the minutes spent are not.
        many = 15
        plan = plan_of(
            [((0, 1), (5,), ())], [(0, (40 * at,)) for at in range(many)], bounds=((9,),) * many, budget=20,
        )
        self.assertTrue(least_book(plan))

    def test_steps(self):
        for bounds, budget in (((5, 4, 6, 9, 1) + (0,) * 10, 16), ((7, 6, 8, 0, 1, 6) + (0,) * 9, 14)):
            sizes = spent_sizes(bounds, budget)
            self.assertLessEqual(max(sizes), 4000)
            self.assertGreater(sum(sizes), 40000)
            self.assert_error(TooMany, ["steps", 40000], least_book, wide(bounds, budget))
        bounds, budget = (5, 4, 6, 9, 1) + (0,) * 9, 16
        self.assertLess(sum(spent_sizes(bounds, budget)), 40000)
        self.assertTrue(least_book(wide(bounds, budget)))

    def test_of_the_first_plan_first(self):
        # Of the one there is a table with too many rows; of the other one, which the first two trips' delays leave sooner,
        # there are too many in all. So another error is told of each.
        rows = wide((3, 7, 3, 3, 2, 8) + (0,) * 9, 17)
        sooner = tuple(("meet", at, 0, at + 1, 0, 0, "blind") for at in range(2))
        fewer = put_part(rows, "meets", sooner + rows[6][2:])
        self.assertTrue(is_plan(fewer))
        self.assert_error(TooMany, ["standings", 4000], least_book, rows)
        self.assert_error(TooMany, ["steps", 40000], least_book, fewer)
        for call in (are_alike, parting_course):
            self.assert_error(TooMany, ["standings", 4000], call, rows, fewer)
            self.assert_error(TooMany, ["steps", 40000], call, fewer, rows)

    def test_of_the_second_plan_alone(self):
        bounds, budget = (1, 6, 6, 6, 6), 16
        rows = wide(bounds, budget)
        small = put_part(rows, "meets", tuple(("meet", at, 0, at + 1, 0, 0, "blind") for at in range(5)))
        self.assertTrue(least_book(small))
        for call in (are_alike, parting_course):
            self.assert_error(TooMany, ["standings", 4000], call, small, rows)
            self.assert_error(TooMany, ["standings", 4000], call, rows, small)


if __name__ == "__main__":
    unittest.main()
