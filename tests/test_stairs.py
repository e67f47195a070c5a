"""[67]: stairs with one pair more, by themselves, and who is misled by them."""

import itertools
import unittest

from citylines.stairs import is_misled, moment_behind, moment_of, with_pair
from helpers import Case


def only_needed(pairs):
    """All unlike pairs that count, but those that another one makes needless, sorted."""
    pairs = {pair for pair in pairs if pair[1] > pair[0]}
    return tuple(sorted(
        pair for pair in pairs if not any(one != pair and one[0] <= pair[0] and one[1] >= pair[1] for one in pairs)
    ))


class Stairs(Case):
    def test_all_small_ones(self):
        pairs = list(itertools.product(range(5), range(6)))
        for many in range(4):
            for some in itertools.combinations([pair for pair in pairs if pair[1] > pair[0]], many):
                if only_needed(some) == some:
                    for pair in pairs:
                        self.assertEqual(only_needed(some + (pair,)), with_pair(some, pair))

    def test_misled(self):
        for departure, told in ((4, False), (5, True), (8, True), (9, False)):
            self.assertIs(is_misled(((5, 9),), departure), told)
            self.assertIs(is_misled(((0, 3), (5, 9), (20, 30)), departure), told)
        self.assertIs(is_misled((), 5), False)

    def test_moments(self):
        self.assertEqual([7, 9, 7], [moment_behind(7, times) for times in ((3, 20), (9, 20), (None, None))])
        steps = [((), times, (), ()) for times in ((3, 20), (None, None), (2, 9))]
        self.assertEqual([0, 3, 3, 3], [moment_of(steps[:many]) for many in range(4)])
        self.assertEqual(0, moment_of([steps[1]]))


if __name__ == "__main__":
    unittest.main()
