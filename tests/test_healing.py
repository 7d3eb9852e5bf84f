import unittest

from helper import kept, path_fault
from roundfall.healing import healed
from roundfall.runs import keeps
from roundfall.waste import closing_round, waste_of

FOUR = (4, 3, 2, 1)
FIVE = (5, 4, 3, 2, 1)
# (run, bound): healed behind each number of rounds less than the closing round.
WORKED = [
    # nobody falls
    (((1, 2), ()), 0),
    (((1, 2, 3), ()), 1),
    ((FIVE, ()), 3),
    # one fall that nobody, one, all but one, all heard; in each round
    (((1, 2, 3), ((0, 1, 0),)), 1),
    (((1, 2, 3), ((0, 1, 2),)), 1),
    (((1, 2, 3), ((0, 1, 6),)), 1),
    ((FOUR, ((3, 1, 0),)), 2),
    ((FOUR, ((3, 2, 6),)), 2),
    ((FIVE, ((2, 3, 11),)), 3),
    ((FIVE, ((2, 1, 27),)), 3),
    # falls of rounds behind all that are asked
    (((1, 2, 3), ((1, 5, 0),)), 1),
    ((FIVE, ((0, 4, 0), (1, 4, 28), (4, 5, 15))), 3),
    ((FIVE, ((0, 1, 0), (1, 5, 0), (4, 5, 0))), 3),
    # several in one round that all heard, where one does not reach another that falls in it too
    ((FOUR, ((0, 1, 12), (1, 1, 12))), 2),
    ((FOUR, ((0, 1, 14), (1, 1, 13))), 2),
    ((FOUR, ((0, 2, 12), (1, 2, 12))), 2),
    ((FIVE, ((0, 1, 24), (1, 1, 24), (2, 1, 24))), 3),
    ((FIVE, ((0, 2, 24), (1, 2, 24), (2, 2, 24))), 3),
    ((FIVE, ((0, 3, 24), (1, 3, 25), (2, 3, 27))), 3),
    # several in one round, one that all heard and others not
    ((FOUR, ((0, 1, 12), (1, 1, 4))), 2),
    ((FIVE, ((0, 2, 28), (1, 2, 4), (3, 1, 23))), 3),
    ((FIVE, ((0, 2, 20), (1, 2, 0), (3, 2, 20))), 3),
    # several in one round that reach nobody, or one another alone: waste
    ((FOUR, ((0, 1, 0), (1, 1, 0))), 2),
    ((FOUR, ((0, 1, 2), (1, 1, 1))), 2),
    ((FIVE, ((0, 1, 0), (1, 1, 0))), 3),
    ((FIVE, ((0, 1, 0), (1, 1, 0), (2, 1, 0))), 3),
    ((FIVE, ((0, 1, 6), (1, 1, 5), (2, 1, 11))), 3),
    ((FIVE, ((0, 1, 0), (1, 2, 0), (2, 2, 0))), 3),
    ((FIVE, ((0, 1, 30), (1, 2, 1), (2, 2, 2))), 3),
    # one in each round
    ((FOUR, ((0, 2, 0), (3, 1, 1))), 2),
    ((FIVE, ((0, 1, 2), (1, 2, 4), (2, 3, 8))), 3),
    ((FIVE, ((0, 3, 0), (1, 2, 0), (2, 1, 0))), 3),
    ((FIVE, ((0, 1, 30), (1, 2, 28), (2, 3, 24))), 3),
]


class HealedTest(unittest.TestCase):
    def check(self, run, bound):
        for rounds in range(closing_round(run, bound)):
            path = healed(run, bound, rounds)
            self.assertIsNone(path_fault(path, rounds), (run, bound, rounds))
            self.assertEqual(path[0], run)
            self.assertEqual(path[-1], (run[0], ()))
            for each in path:
                self.assertTrue(keeps(each, bound), (run, bound, rounds, each))

    def test_worked_by_hand(self):
        for run, bound in WORKED:
            with self.subTest(run=run, bound=bound):
                self.check(run, bound)

    def test_many(self):
        seen = set()
        for run, bound in kept()[::2]:
            self.check(run, bound)
            seen.add((len(run[0]), waste_of(run)))
        self.assertEqual(seen, {(2, 0), (3, 0), (4, 0), (4, 1), (5, 0), (5, 1), (5, 2)})

    def test_a_lesser_and_a_greater_bound(self):
        for bound in (1, 2, 3):
            for falls in [(), ((0, 1, 0),), ((1, 1, 29),), ((4, 2, 3),), ((3, 3, 16),)]:
                self.check((FIVE, falls), bound)

    def test_behind_no_round_no_fall_is_seen(self):
        run = (FIVE, ((0, 1, 0), (1, 1, 5), (2, 3, 0)))
        path = healed(run, 3, 0)
        self.assertIsNone(path_fault(path, 0))
        self.assertEqual((path[0], path[-1]), (run, (FIVE, ())))

    def test_the_same_numbers_all_along(self):
        numbers = (-(10 ** 59), 0, 0, 10 ** 60 - 1, 7)
        for run in healed((numbers, ((0, 1, 2), (1, 2, 4), (2, 3, 8))), 3, 3):
            self.assertEqual(run[0], numbers)

    def test_told_twice_is_two_lists(self):
        for run, bound in WORKED:
            before = repr(run)
            told = healed(run, bound, 1 if bound > 0 else 0)
            right = list(told)
            told.append("other")
            told[0] = None
            self.assertEqual(healed(run, bound, 1 if bound > 0 else 0), right)
            self.assertEqual(repr(run), before)


if __name__ == "__main__":
    unittest.main()
