"""[38], [81]: what remedies leave, told by itself: hops that are run, waits, accesses, promises that are gone."""

import unittest

from citylines.marks import access_of, is_gone, run_hops_of, waits_of
from helpers import Case
from reckon import Reckoned, all_rides
from some_plans import made, put_part
from told_plans import RICH, plan_of

PLAN = plan_of(
    [((0, 1, 2, 3), (4, 4, 4), (0, 0)), ((3, 0), (4,), ())], [(0, (0, 4, 8)), (1, (40,)), (0, (60, 64, 68))],
    duties=(("duty", ((0, 0, 0),), ()), ("duty", ((0, 1, 1), (1, 0, 0)), (("walk", 9),)), ("duty", ((0, 2, 2),), ()), ("duty", ((2, 0, 2),), ())),
    meets=(("meet", 0, 2, 1, 0, 3, "news"), ("meet", 1, 0, 2, 1, 4, "blind"), ("meet", 0, 0, 2, 0, 5, "blind")),
    promises=(
        ("meets", 0), ("meets", 1), ("leaves", 0, 0, 9), ("leaves", 0, 1, 9), ("leaves", 0, 2, 9), ("ends", 0, 9), ("ends", 1, 9),
        ("driven", 0, 99), ("long", 1, 99), ("driven", 2, 99), ("long", 2, 99), ("long", 3, 99),
    ),
)


class Marks(Case):
    def assert_left(self, hops, waits, gone, *remedies):
        rows = tuple((0, remedy) for remedy in remedies)
        self.assert_told(hops, run_hops_of, PLAN[3], rows)
        self.assert_told(waits, waits_of, PLAN[6], hops, rows)
        told = [at for at, promise in enumerate(PLAN[7]) if is_gone(PLAN, hops, waits, promise)]
        self.assertEqual(gone, told)

    def test_by_hand(self):
        self.assert_left([3, 1, 3], [3, 4, 5], [])
        self.assert_left([3, 1, 3], [None, 4, 5], [0], ("free", 0))
        self.assert_left([3, 1, 3], [9, 4, 0], [], ("wait", 0, 4), ("wait", 0, 9), ("wait", 2, 0))
        self.assert_left([3, 1, 3], [None, 4, 5], [0], ("wait", 0, 9), ("free", 0))
        self.assert_left([2, 1, 3], [None, 4, 5], [0, 4, 5, 9, 10], ("cut", 0, 1))
        self.assert_left([3, 0, 3], [None, None, 5], [0, 1, 6], ("drop", 1))
        self.assert_left([1, 0, 3], [None, None, 5], [0, 1, 3, 4, 5, 6, 8, 9, 10], ("drop", 1), ("cut", 0, 1), ("cut", 0, 0))
        self.assert_left([0, 0, 3], [None, None, None], [0, 1, 2, 3, 4, 5, 6, 7, 8, 9, 10], ("drop", 1), ("cut", 0, 1), ("drop", 0))
        self.assert_left([3, 1, 1], [3, None, 5], [1], ("cut", 2, 0))
        self.assert_left([3, 1, 3], [3, 4, 5], [], ("spare", 1, 3))

    def test_accesses(self):
        rows = ((0, ("spare", 3, 4)), (0, ("drop", 5)), (1, ("spare", 2, 1)), (1, ("spare", 3, 2)), (1, ("spare", 3, 9)))
        self.assertEqual([None, None, 1, 2], [access_of(trip, rows) for trip in range(4)])
        self.assertIsNone(access_of(0, ()))

    def test_against_the_reckoning(self):
        for plan in [RICH] + [made(number, remedies=True) for number in range(80)]:
            known = Reckoned(plan, [*plan[10]] + [0] * (len(all_rides(plan[3])) - len(plan[10])))
            hops = run_hops_of(plan[3], plan[11])
            for trip, row in enumerate(plan[3]):
                self.assertEqual([hop < hops[trip] for hop in range(len(row[2]))], [(trip, hop) not in known.off for hop in range(len(row[2]))])
            waits = waits_of(plan[6], hops, plan[11])
            for number, wait in enumerate(waits):
                self.assertEqual(None if number in known.gone_meets else known.wait[number], wait)
            # Without bounds of what they ask, all promises that are not gone can break: nothing that is gone does.
            gone = [is_gone(plan, hops, waits, promise) for promise in plan[7]]
            self.assertFalse(any(gone[promise] for _, promise, _ in known.breaks))
            self.assertEqual(gone, [is_gone(put_part(plan, "spares", None), hops, waits, promise) for promise in plan[7]])


if __name__ == "__main__":
    unittest.main()
