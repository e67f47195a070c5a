"""[103], [104]: claims and their contraries, whether they are true, papers, pair books."""

import random
import unittest

from citylines.books import book, reached
from citylines.claims import contrary, is_claim, is_paper_of, is_true, paper_of, words
from citylines.errors import InvalidClaim, TooMany
from citylines.fields import first_standing, step
from citylines.leasts import parting_course
from citylines.plans import is_plan, with_budget
from citylines.profiles import staircases
from citylines.remedies import after, is_remedy
from covering import least
from helpers import Case, Few, NO_INTEGERS, OTHERS, is_plain, listed, part, paths, put
from known_signs import Known
from reckon import Reckoned, all_rides, courses, let_bounds
from riding import Riding, made_way
from some_plans import ROWS_4000, ROWS_4001, STEPS_40000, STEPS_40001, made, put_part, wide
from told_plans import CASE_A, CASE_B, CASE_C, CASE_D, CHARGED, RICH, case_e, overview, plan_of

UNSOUND = put_part(CASE_B, "promises", (("driven", 1, 29),))
HOUR = ("ticket", 300, 60, (1, 2), 1)
WORDS = [("keeps", "breaks"), ("safe", "misleads"), ("surely", "perhaps"), ("alike", "unlike"), ("same", "parted"), ("within", "above")]
# Right parts for both words of each line.
WAY = (0, 0, ("ride", 0, 1, ("walk", 2, ("there",))))
PARTS = [
    (overview(),), (overview(), 1, "least", 4), (overview(), 1, "now", 0), (overview(), WAY, 30), (overview(), overview()),
    (overview(), put_part(overview(), "trips", (("trip", 0, (0,)), ("trip", 1, (13,))))), ([HOUR], [(0, 20, (1,))], 300),
]
LINES = [0, 1, 1, 2, 3, 4, 5]


def answers(plan, course):
    """For each ride what it answers: the meets that are made, and what it breaks."""
    known = Reckoned(plan, course)
    found = []
    for at, ride in enumerate(known.rides):
        made_there = {number for number, meet in enumerate(plan[6]) if meet[3:5] == ride and known.made.get(number)}
        found.append((made_there, [row[1:] for row in known.breaks if row[0] == at]))
    return found


def other_plan(number, plan):
    """Another plan that is compared with it: with turns, breaks, waits or told minutes otherwise, where that is sound."""
    rng = random.Random(number)
    for _ in range(12):
        word = rng.choice(["blocks", "duties", "meets", "lines", "spares", "promises", "remedies", "remedies", "remedies"])
        other = plan
        if word == "remedies" and plan[6]:
            meet = rng.randrange(len(plan[6]))
            remedy = rng.choice([("free", meet), ("wait", meet, 0), ("wait", meet, 9)])
            other = after(plan, remedy) if is_remedy(plan, remedy) else plan
        if word == "blocks":
            other = put_part(plan, word, tuple(("block", own, tuple(max(0, turn + rng.choice([-1, 0, 1])) for turn in turns), None) for _, own, turns, _ in plan[4]))
        if word == "duties":
            rows = tuple(("duty", own, tuple((kind, minutes + rng.choice([0, 1])) for kind, minutes in breaks)) for _, own, breaks in plan[5])
            other = put_part(plan, word, rows)
        if word == "meets" and plan[6]:
            at = rng.randrange(len(plan[6]))
            other = put_part(plan, word, put(plan[6], (at,), put(put(plan[6][at], (5,), rng.choice([0, 1, 2, 5])), (6,), rng.choice(["blind", "news"]))))
        if word == "lines":
            other = put_part(plan, word, tuple(row[:4] + (rng.choice([1, row[4]]),) for row in plan[2]))
        if word == "spares":
            other = put_part(plan, word, rng.choice([None, (1, 0, 2), (0, 0, 0)]))
        if word == "promises" and plan[7]:
            at = rng.randrange(len(plan[7]))
            if plan[7][at][0] in ("leaves", "ends"):
                other = put_part(plan, word, put(plan[7], (at, -1), rng.choice([0, 1, 2, 9])))
        if other != plan and is_plan(other):
            return other
    return plan


class Forms(Case):
    def test_words(self):
        self.assert_told(WORDS, words)
        self.assertIsNot(words(), words())

    def test_right_ones_and_their_contraries(self):
        for parts, line in zip(PARTS, LINES):
            one, other = WORDS[line]
            for word, twin in ((one, other), (other, one)):
                claim = (word,) + parts
                self.assert_yes(is_claim, claim)
                self.assert_told((twin,) + parts, contrary, claim)
                self.assertEqual(claim, contrary(contrary(claim)))
                self.assertIsNot(is_true(claim), is_true(contrary(claim)))
                for wrong in WORDS[:line] + WORDS[line + 1:]:
                    if {line, WORDS.index(wrong)} != {3, 4}:
                        self.assert_no(is_claim, (wrong[0],) + parts)
                for value in (list(claim), claim + (0,), claim[:-1], (word.upper(),) + parts, (word,), (None,) + parts, parts):
                    self.assert_no(is_claim, value)
                    self.assert_error(InvalidClaim, [value], contrary, value)
                    self.assert_error(InvalidClaim, [value], is_true, value)
                    self.assert_error(InvalidClaim, [value], paper_of, value)
                    self.assert_error(InvalidClaim, [value], is_paper_of, value, None)

    def test_values_of_all_kinds(self):
        for value in OTHERS:
            self.assert_no(is_claim, value)
            self.assert_no(is_claim, (value,))
            self.assert_error(InvalidClaim, [value], is_true, value)
            for parts, line in zip(PARTS, LINES):
                for word in WORDS[line]:
                    for at in range(len(parts)):
                        # No tickets are none, but no passages are some; what numbers may be is told elsewhere.
                        if line == 5 and at == 1 and type(value) in (list, tuple) and len(value) == 0:
                            continue
                        if type(value) is int and type(parts[at]) is int:
                            continue
                        self.assert_no(is_claim, (word,) + put(parts, (at,), value))
                    self.assert_no(is_claim, (value,) + parts)

    def test_bounds(self):
        plan = overview()
        for word in WORDS[1]:
            for ride, told in ((0, True), (1, True), (2, False), (-1, False), (True, False), (Few.ONE, True)):
                self.assertIs(is_claim((word, plan, ride, "least", 0)), told)
            for sign, notice, told in (
                ("least", 0, True), ("least", 60, True), ("least", 61, False), ("least", -1, False), ("now", 0, True), ("now", 1, False),
                ("Least", 0, False), ("most", 0, False), ("least", True, False), ("now", False, False),
            ):
                self.assertIs(is_claim((word, plan, 1, sign, notice)), told)
            dropped = after(plan, ("drop", 1))
            self.assertIs(is_claim((word, dropped, 1, "least", 0)), False)
            self.assertIs(is_claim((word, dropped, 0, "least", 0)), True)
        for word in WORDS[2]:
            for minute, told in ((0, True), (9999999, True), (10000000, False), (-1, False), (True, False)):
                self.assertIs(is_claim((word, plan, WAY, minute)), told)
            for way in ((0, 0, ("ride", 1, 1, ("there",))), (0, 2000, ("there",)), list(WAY), (4, 0, ("there",))):
                self.assert_no(is_claim, (word, plan, way, 30))
        for word in WORDS[5]:
            for price, told in ((0, True), (99999, True), (100000, False), (-1, False), (True, False)):
                self.assertIs(is_claim((word, [HOUR], [], price)), told)
            self.assert_yes(is_claim, (word, (HOUR,), ((0, 20, (3,)),), 0))
            self.assert_no(is_claim, (word, [], [], 0))
            self.assert_no(is_claim, (word, [HOUR] * 9, [], 0))
            self.assert_no(is_claim, (word, [HOUR], [(0, 20, (1,))] * 11, 0))
            self.assert_yes(is_claim, (word, [HOUR] * 8, [(0, 20, (1,))] * 10, 0))

    def test_two_plans(self):
        plan = overview()
        more = with_budget(plan, 4)
        two = plan_of([((0, 1), (5,), ())], [(0, (10,))], stops=2)
        for word in WORDS[3]:
            self.assert_no(is_claim, (word, plan, more))
            self.assert_no(is_claim, (word, plan, two))
            self.assert_no(is_claim, (word, plan, put_part(plan, "heard", (0,))))
            self.assert_no(is_claim, (word, plan, put_part(plan, "promises", ())))
            self.assert_yes(is_claim, (word, plan, after(plan, ("free", 0))))
            self.assert_no(is_claim, (word, plan, UNSOUND))
        for word in WORDS[4]:
            self.assert_yes(is_claim, (word, plan, more))
            self.assert_yes(is_claim, (word, plan, CASE_B))
            self.assert_no(is_claim, (word, plan, two))
            self.assert_no(is_claim, (word, two, plan))
            self.assert_no(is_claim, (word, UNSOUND, plan))

    def test_new_lists_and_plain(self):
        claim = ("within", [("ticket", Few.TWO, Few.ONE, (Few.ONE,), Few.ONE)], [(Few.NONE, Few.ONE, (Few.ONE,))], Few.TWO)
        told = contrary(claim)
        self.assert_same(("above", [("ticket", 2, 1, (1,), 1)], [(0, 1, (1,))], 2), told)
        self.assertIsNot(told[1], claim[1])
        self.assert_same([(0, (0,))], paper_of(claim))
        self.assert_by_name(is_claim, value=claim)
        self.assert_by_name(is_true, claim=PARTS[6] and ("within",) + PARTS[6])
        self.assert_by_name(contrary, claim=("within",) + PARTS[6])
        self.assert_by_name(paper_of, claim=("within",) + PARTS[6])
        self.assert_by_name(is_paper_of, claim=("within",) + PARTS[6], value=[(0, (0,))])


class Truth(Case):
    def assert_claim(self, told, word, *parts):
        """The claim of the line's first word is true or not, as told; papers are there just of what is true."""
        one, other = next(pair for pair in WORDS if word in pair)
        self.assertEqual(one, word)
        right, wrong = ((one,) + parts, (other,) + parts) if told else ((other,) + parts, (one,) + parts)
        self.assertIs(is_true(right), True)
        self.assertIs(is_true(wrong), False)
        paper = paper_of(right)
        self.assertTrue(is_plain(paper))
        self.assertEqual(paper, paper_of(right))
        self.assertIsNone(paper_of(wrong))
        self.assert_yes(is_paper_of, right, paper)
        self.assert_no(is_paper_of, wrong, paper)
        self.assert_yes(is_paper_of, right, tuple(paper))
        self.assertTrue(self.sizes(paper))
        return paper

    def sizes(self, value):
        if isinstance(value, (list, tuple)):
            return len(value) <= 4000 and all(self.sizes(own) for own in value)
        return not isinstance(value, int) or abs(value) < 10 ** 12

    def small(self, count, **told):
        for number in range(count):
            plan = made(number, rides=5, bound=2, budget=3, **told)
            if len(courses(plan)) <= 40:
                yield number, plan

    def test_keeps(self):
        seen = set()
        for _, plan in self.small(80):
            told = not any(Reckoned(plan, course).breaks for course in courses(plan))
            seen.add(told)
            self.assert_claim(told, "keeps", plan)
        self.assertEqual({True, False}, seen)

    def test_safe(self):
        seen = set()
        for number, plan in self.small(30):
            known = Known(plan)
            for ride in known.run():
                for sign, notice in (("least", 0), ("least", 3), ("least", 20), ("now", 0)):
                    told = not any(known.misleads(course, ride, sign, notice) for course in known.days)
                    seen.add((sign, told))
                    self.assert_claim(told, "safe", plan, ride, sign, notice)
        freed = plan_of(
            [((0, 1, 2), (5, 5), (0,)), ((3, 0), (5,), ())], [(0, (0, 5)), (1, (12,))], meets=(("meet", 0, 1, 1, 0, 3, "news"),),
            bounds=((3, 3), (0,)), budget=5, walk=1,
        )
        self.assertEqual([2, 3, 0], self.assert_claim(False, "safe", freed, 2, "now", 0))
        self.assertTrue({("least", True), ("least", False), ("now", True)} <= seen)

    def test_surely(self):
        seen = set()
        for number, plan in self.small(80):
            way = made_way(number, plan)
            arrivals = [Riding(plan, course, way).arrival for course in courses(plan)]
            for minute in sorted({0, 9999999} | {arrival + add for arrival in arrivals if arrival for add in (-1, 0)}):
                told = all(arrival is not None and arrival <= minute for arrival in arrivals)
                seen.add(told)
                self.assert_claim(told, "surely", plan, way, minute)
        self.assertEqual({True, False}, seen)

    def test_alike(self):
        seen = {True: 0, False: 0}
        pairs = [(plan, other_plan(number, plan)) for number, plan in self.small(100)]
        for plan in (CASE_A, CASE_C, with_budget(CASE_D, 4), case_e((1, 1, 2))):
            pairs.extend((plan, after(plan, remedy)) for remedy in (("free", 0), ("wait", 0, 0), ("wait", 0, 4), ("wait", 0, 9)))
        for plan, other in pairs:
            both = [(answers(plan, course), answers(other, course)) for course in courses(plan)]
            told = all(one == two for one, two in both)
            seen[told] += 1
            for one, two in ((plan, other), (other, plan)):
                paper = self.assert_claim(told, "alike", one, two)
                if told:
                    self.assertEqual(self.pairs(one, two), paper)
                else:
                    self.assertEqual(parting_course(one, two), paper)
            for course, (one, two) in list(zip(courses(plan), both))[:15]:
                self.assertIs(is_paper_of(("unlike", plan, other), course), one != two)
                self.assertIs(is_paper_of(("unlike", plan, other), tuple(course)), one != two)
        self.assertTrue(seen[True] > 10 and seen[False] > 5, seen)

    def pairs(self, plan, other):
        """For each prefix of each course, what both come to, with the fewest minutes."""
        found = [{} for _ in range(len(let_bounds(plan)) + 1)]
        for course in courses(plan):
            one, two = first_standing(plan), first_standing(other)
            for many in range(len(course) + 1):
                key = (one, two)
                found[many][key] = min(sum(course[:many]), found[many].get(key, 99))
                if many < len(course):
                    one, two = step(plan, many, one, course[many])[0], step(other, many, two, course[many])[0]
        return [sorted(key + (spent,) for key, spent in rows.items()) for rows in found]

    def test_same(self):
        seen = set()
        for number, plan in self.small(60, remedies=False):
            other = other_plan(number, plan)
            if number % 2:
                told = tuple(("trip", line, tuple(minute + 1 for minute in row)) for _, line, row in plan[3])
                other = put_part(plan, "trips", told)
            if is_plan(other):
                told = staircases(plan) == staircases(other)
                seen.add(told)
                paper = self.assert_claim(told, "same", plan, other)
                if told:
                    self.assertEqual(staircases(plan), paper)
                else:
                    self.assert_no(is_paper_of, ("same", plan, other), staircases(plan))
                    self.assert_no(is_paper_of, ("same", plan, other), staircases(other))
        self.assertEqual({True, False}, seen)

    def test_within(self):
        rng = random.Random(5)
        zones = [(1,), (2,), (1, 2)]
        for _ in range(150):
            tickets = [("ticket", rng.randint(1, 20), rng.choice([5, 20]), rng.choice(zones), rng.randint(1, 2)) for _ in range(rng.randint(1, 3))]
            passages = [(begin, begin + rng.randint(1, 9), rng.choice(zones)) for begin in (rng.randint(0, 20) for _ in range(rng.randint(0, 4)))]
            price = least(tickets, passages)
            for own in (0, 99999) if price is None else (price - 1, price, price + 1):
                if own >= 0:
                    self.assert_claim(price is not None and price <= own, "within", tickets, passages, own)
                    self.assert_claim(price is not None and price <= own, "within", tuple(tickets), tuple(passages), own)


class Papers(Case):
    def claims(self):
        found = []
        for parts, line in zip(PARTS, LINES):
            for word in WORDS[line]:
                found.append((word,) + parts)
        kept = with_budget(overview(), 3)
        found += [("keeps", kept), ("surely", kept, WAY, 99), ("alike", kept, put_part(kept, "promises", (("leaves", 1, 0, 3),)))]
        found += [("above", [HOUR], [(0, 20, (3,))], 99999), ("same", RICH, RICH), ("safe", kept, 1, "least", 0), ("safe", kept, 1, "now", 0)]
        found += [("within", [HOUR], [(0, 20, (1,)), (5, 9, (2,))], 600), ("above", [HOUR], [(0, 20, (1,)), (5, 9, (2,))], 599)]
        return found

    def test_values_of_all_kinds(self):
        for claim in self.claims():
            for value in OTHERS:
                self.assert_no(is_paper_of, claim, value)
                self.assert_no(is_paper_of, claim, [value])
                self.assert_no(is_paper_of, claim, [value, value])

    def test_bent_at_each_place_never_of_both(self):
        done = 0
        for claim in self.claims():
            if not is_true(claim):
                claim = contrary(claim)
            paper, twin = paper_of(claim), contrary(claim)
            bent = [value + [0] if isinstance(value, list) else value + (0,) for value in [paper]]
            for path in paths(paper):
                old = part(paper, path)
                if isinstance(old, int):
                    news = [old + 1, old - 1, -1, None, True, str(old), 10 ** 9]
                elif isinstance(old, (list, tuple)):
                    news = [old[:-1], old + old[:1], old[::-1], listed(old) if isinstance(old, tuple) else None, ()]
                else:
                    news = ["", "at", None, 0]
                bent.extend(put(paper, path, new) for new in news)
            for value in bent:
                self.assertFalse(is_paper_of(claim, value) and is_paper_of(twin, value))
                self.assertFalse(is_paper_of(twin, value))
                done += 1
        self.assertGreater(done, 500)

    def test_papers_of_one_are_none_of_another(self):
        papers = [(claim, paper_of(claim)) for claim in self.claims() if is_true(claim)]
        for claim, paper in papers:
            for other, _ in papers:
                if is_paper_of(other, paper):
                    self.assertIsNone(paper_of(contrary(other)))

    def test_each_paper_is_judged_as_it_is(self):
        late = overview()
        for value, told in (([4, 0], True), ([5, 0], False), ([9, 0], False), ((4, 0), True), ([4], False), ([True, 0], False)):
            self.assertIs(is_paper_of(("breaks", late), value), told)
            self.assert_no(is_paper_of, ("keeps", late), value)
        kept = with_budget(late, 3)
        self.assert_yes(is_paper_of, ("keeps", kept), book(kept))
        self.assert_no(is_paper_of, ("keeps", late), reached(late))
        self.assert_yes(is_paper_of, ("parted",) + PARTS[5], (2, 3, 13))
        self.assert_no(is_paper_of, ("parted",) + PARTS[5], (2, 3, 14))
        self.assert_yes(is_paper_of, ("within", [HOUR], [(0, 20, (1,))], 300), [(0, (0,))])
        self.assert_no(is_paper_of, ("within", [HOUR], [(0, 20, (1,))], 299), [(0, (0,))])
        self.assert_yes(is_paper_of, ("above", [HOUR], [(0, 20, (1,))], 299), [0, 300])
        self.assert_no(is_paper_of, ("above", [HOUR], [(0, 20, (1,))], 300), [0, 300])
        self.assert_yes(is_paper_of, ("above", [HOUR], [(0, 20, (3,))], 300), [0, None])
        self.assert_yes(is_paper_of, ("above", [HOUR], [(0, 20, (3,))], 300), [0, 301])
        self.assert_no(is_paper_of, ("above", [HOUR], [(0, 20, (3,))], 300), [0, 300])
        self.assert_no(is_paper_of, ("above", [HOUR], [(0, 20, (1,))], 299), [0, None])


class Pairs(Case):
    def is_book(self, plan, other, value):
        """The definition of [104], of lists of rows of the right form."""
        bounds, heard, budget = let_bounds(plan), plan[10], plan[8][1]
        for rows in value:
            keys = [row[:2] for row in rows]
            if rows != sorted(rows) or len(set(keys)) < len(keys):
                return False
        tables = [{row[:2]: row[2] for row in rows} for rows in value]
        if tables[0].get((first_standing(plan), first_standing(other))) != 0:
            return False
        for many in range(len(bounds)):
            for (one, two), number in tables[many].items():
                for delay in [heard[many]] if many < len(heard) else range(bounds[many] + 1):
                    if number + delay <= budget:
                        left, right = step(plan, many, one, delay), step(other, many, two, delay)
                        if left[2:] != right[2:] or tables[many + 1].get((left[0], right[0]), budget + 1) > number + delay:
                            return False
        return True

    def test_bent_books(self):
        seen = {True: 0, False: 0}
        for number in range(45):
            plan = made(number, rides=5, bound=2, budget=3)
            other = other_plan(number, plan)
            claim = ("alike", plan, other)
            if len(courses(plan)) > 30 or not is_true(claim):
                continue
            rows = paper_of(claim)
            self.assert_yes(is_paper_of, claim, rows)
            rng = random.Random(number)
            places = [(many, at) for many in range(len(rows)) for at in range(len(rows[many]))]
            for many, at in rng.sample(places, min(8, len(places))):
                one, two, number_there = rows[many][at]
                news = [rows[many][:at] + rows[many][at + 1:], rows[many][:at + 1] + rows[many][at:], rows[many][::-1]]
                if number_there < plan[8][1]:
                    news.append(rows[many][:at + 1] + [(one, two, number_there + 1)] + rows[many][at + 1:])
                for count in (number_there - 1, number_there + 1, 0, plan[8][1]):
                    if 0 <= count <= plan[8][1]:
                        news.append(put(rows[many], (at,), (one, two, count)))
                for some in news:
                    value = put(rows, (many,), some)
                    told = self.is_book(plan, other, value)
                    self.assertIs(is_paper_of(claim, value), told)
                    seen[told] += 1
                for spoilt in ([one, two, number_there], (one, two), (one, two, number_there, 0), (one, two, plan[8][1] + 1), (one, two, -1), (one, two, None), (list(one), two, 0), (one, list(two), 0), (one + (0,), two, number_there), (one, two + (0,), number_there)):
                    self.assert_no(is_paper_of, claim, put(rows, (many, at), spoilt))
            self.assert_no(is_paper_of, claim, rows[:-1])
            self.assert_no(is_paper_of, claim, rows + [[]])
            self.assert_no(is_paper_of, claim, rows[1:])
            self.assert_yes(is_paper_of, claim, tuple(map(tuple, rows)))
        self.assertTrue(seen[True] > 10 and seen[False] > 50, seen)

    def test_more_rows_are_let(self):
        kept = overview(bound=5, budget=3)
        twin = put_part(kept, "promises", (("leaves", 1, 0, 3),))
        claim = ("alike", kept, twin)
        rows = paper_of(claim)
        self.assertEqual([[((), (), 0)], [((late, 0), (late, 0), late) for late in range(4)], [((), (), 0)]], rows)
        for row, told in (
            (((5, 0), (5, 0), 3), True), (((4, 0), (4, 0), 3), False), (((4, 0), (5, 0), 3), False), (((3, 3), (2, 2), 1), True),
            (((3, 3), (2, 3), 1), False), (((3, 0), (3, 1), 0), True), (((0, 0), (0, 0), 3), False),
        ):
            some = sorted(rows[1] + [row])
            self.assertIs(is_paper_of(claim, [rows[0], some, rows[2]]), told, row)

    def test_rides_that_are_not_run(self):
        plan = overview()
        free, dropped = after(plan, ("free", 0)), after(plan, ("drop", 0))
        self.assert_no(is_claim, ("alike", free, dropped))
        still = put_part(plan, "delays", (((0,), (0,)), 5))
        one, two = after(still, ("drop", 0)), after(still, ("free", 0))
        self.assertIs(is_true(("alike", one, two)), True)
        self.assert_yes(is_paper_of, ("alike", one, two), paper_of(("alike", one, two)))
        self.assertIs(is_true(("alike", one, still)), False)
        self.assertEqual([0, 0], paper_of(("unlike", one, still)))

    def test_the_documents_plans(self):
        for plan in (CASE_C, CASE_D, CHARGED):
            self.assertIs(is_true(("alike", plan, plan)), True)
            bare = put_part(plan, "meets", plan[6][:-1] + (plan[6][-1][:5] + (0,) + plan[6][-1][6:],))
            self.assertIs(is_true(("alike", plan, bare)), parting_course(plan, bare) is None)


class Limits(Case):
    def test_too_many(self):
        for what, limit, rows in (("standings", 4000, ROWS_4001), ("steps", 40000, STEPS_40001)):
            plan = wide(*rows, promises=(("ends", 0, 0),))
            last = len(rows[0])
            way = (0, 0, ("ride", 0, 1, ("there",)))
            claims = [
                ("keeps", plan), ("breaks", plan), ("surely", plan, way, 9), ("perhaps", plan, way, 9),
                ("alike", plan, plan), ("unlike", plan, plan),
            ]
            # Of a case the rows to its ride are counted, not those behind it.
            if what == "standings":
                claims += [(word, plan, last, *case) for word in WORDS[1] for case in (("least", 3), ("now", 0))]
            else:
                self.assertIs(is_true(("safe", plan, last, "least", 3)), True)
            for claim in claims:
                self.assert_yes(is_claim, claim)
                self.assert_error(TooMany, [what, limit], is_true, claim)
                self.assert_error(TooMany, [what, limit], paper_of, claim)
            course = [1] + [0] * last
            # Judges raise none, but of "misleads" with "least".
            self.assert_yes(is_paper_of, ("breaks", plan), course)
            self.assert_no(is_paper_of, ("keeps", plan), course)
            self.assert_no(is_paper_of, ("unlike", plan, plan), course)
            self.assert_no(is_paper_of, ("alike", plan, plan), course)
            self.assert_yes(is_paper_of, ("perhaps", plan, way, 9), course)
            self.assert_no(is_paper_of, ("surely", plan, way, 9), course)
            self.assert_no(is_paper_of, ("misleads", plan, last, "now", 0), course)
            self.assert_no(is_paper_of, ("safe", plan, last, "now", 0), course)
            self.assert_no(is_paper_of, ("safe", plan, last, "least", 3), course)
            if what == "standings":
                self.assert_error(TooMany, [what, limit], is_paper_of, ("misleads", plan, last, "least", 3), course)
            self.assert_no(is_paper_of, ("misleads", plan, last, "least", 3), [99])
            self.assertIs(is_true(("same", plan, plan)), True)

    def test_rows_of_a_case(self):
        plan = wide((9, 9, 8, 4) + (0,) * 11, 18)
        for word in WORDS[1]:
            for case in (("least", 3), ("now", 0)):
                self.assert_error(TooMany, ["steps", 40000], is_true, (word, plan, 15, *case))
                self.assert_error(TooMany, ["steps", 40000], paper_of, (word, plan, 15, *case))
                self.assertIs(is_true((word, plan, 3, *case)), word == "safe")

    def test_just_as_many(self):
        for bounds, budget in (ROWS_4000, STEPS_40000):
            plan = wide(bounds, budget, promises=())
            self.assertIs(is_true(("keeps", plan)), True)
            self.assertIs(is_true(("alike", plan, plan)), True)

    def test_pairs_are_counted_not_standings(self):
        # Each plan has ten standings behind the first two rides; of pairs there are a hundred, all of the first ride's.
        plan = overview(bound=9, budget=9)
        self.assertIs(is_true(("alike", plan, plan)), True)
        rows = paper_of(("alike", plan, plan))
        self.assertEqual([1, 10, 1], [len(own) for own in rows])


if __name__ == "__main__":
    unittest.main()
