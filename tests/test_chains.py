import copy
import unittest

from helper import OTHER_THINGS, kept, path_fault
from roundfall.chains import chain_of, renumbered
from roundfall.errors import Closed, NoBound, NoNumbers
from roundfall.runs import keeps
from roundfall.waste import closing_round, waste_of

FOUR = (4, 3, 2, 1)
FIVE = (5, 4, 3, 2, 1)
FIGURES = 10 ** 60 - 1
NO_BOUNDS = OTHER_THINGS + [-1, -2, 4, 5, 10 ** 60, -(10 ** 60)]
# No run of five hands has these.
NO_NUMBERS = OTHER_THINGS + [
    7,
    (1, 2, 3),
    (1, 2, 3, 4),
    (1, 2, 3, 4, 5, 6),
    [1, 2, 3, 4, 5],
    "12345",
    "1 2 3 4 5",
    (True, 2, 3, 4, 5),
    (1, 2, 3, 4, False),
    (1, 2, None, 4, 5),
    (1, "2", 3, 4, 5),
    (1, 2, 3, (4,), 5),
    (1, 2, 3, [4], 5),
    (1, 2, 3, 4, 10 ** 60),
    (-(10 ** 60), 2, 3, 4, 5),
    ((1, 2, 3, 4, 5), ()),
]


def others_of(run):
    """Numbers all other, one as it was, one other, and all as they were."""
    numbers = run[0]
    told = [tuple(number + 1 for number in numbers), tuple(0 for number in numbers), numbers]
    for hand in range(len(numbers)):
        other = tuple(number - 3 for number in numbers)
        told.append(other[:hand] + numbers[hand:hand + 1] + other[hand + 1:])
        told.append(numbers[:hand] + other[hand:hand + 1] + numbers[hand + 1:])
    return told


class RenumberedTest(unittest.TestCase):
    def check(self, numbers, others, rounds):
        path = renumbered((numbers, ()), others, rounds)
        self.assertIsNone(path_fault(path, rounds), (numbers, others, rounds))
        self.assertEqual(path[0], (numbers, ()))
        self.assertEqual(path[-1], (others, ()))
        for run in path:
            self.assertLessEqual(len(run[1]), rounds, (numbers, others, rounds))

    def test_all_other_one_as_it_was_one_other_and_all_as_they_were(self):
        for numbers in [(1, 2), (0, 0), (1, 2, 3), (7, 7, 7), FOUR, (0, -1, 0, -1)]:
            for rounds in range(len(numbers) - 1):
                for others in others_of((numbers, ())):
                    self.check(numbers, others, rounds)

    def test_five_hands(self):
        for rounds in range(3):
            for others in others_of((FIVE, ())):
                self.check(FIVE, others, rounds)
        self.check(FIVE, (0, 0, 0, 0, 0), 3)
        self.check(FIVE, (5, 4, 0, 2, 1), 3)

    def test_hands_that_change_their_numbers_with_one_another(self):
        for rounds in range(3):
            self.check((1, 2, 3, 4), (4, 3, 2, 1), rounds)
            self.check((1, 2, 1, 2), (2, 1, 2, 1), rounds)

    def test_the_longest_numbers(self):
        self.check((FIGURES, -FIGURES, 0), (-FIGURES, 0, FIGURES), 1)

    def test_all_as_they_were_begins_and_ends_with_the_run(self):
        for rounds in range(4):
            self.check(FIVE, FIVE, rounds)

    def test_told_twice_is_two_lists(self):
        for rounds in range(3):
            for others in [FOUR, (0, 0, 0, 0)]:
                told = renumbered((FOUR, ()), others, rounds)
                right = list(told)
                told.append("other")
                told[0] = None
                self.assertEqual(renumbered((FOUR, ()), others, rounds), right)


class ChainTest(unittest.TestCase):
    def check(self, run, bound, rounds, numbers):
        path = chain_of(run, bound, rounds, numbers)
        self.assertIsNone(path_fault(path, rounds), (run, bound, rounds, numbers))
        self.assertEqual(path[0], run)
        self.assertEqual(path[-1], (numbers, ()))
        self.assertLessEqual(len(path), 6000)
        for each in path:
            self.assertTrue(keeps(each, bound), (run, bound, rounds, each))
        return path

    def test_without_falls(self):
        for numbers in [(1, 2), (3, 3, 3), FOUR, FIVE]:
            for bound in range(len(numbers) - 1):
                for rounds in range(min(bound + 1, 3)):
                    for others in others_of((numbers, ()))[:4]:
                        self.check((numbers, ()), bound, rounds, others)

    def test_with_falls(self):
        for run, bound in kept()[::29]:
            for rounds in range(min(closing_round(run, bound), 3)):
                for others in others_of(run)[:4]:
                    self.check(run, bound, rounds, others)

    def test_the_longest(self):
        for falls in [(), ((0, 1, 0), (1, 2, 0), (2, 3, 0)), ((1, 1, 0), (2, 1, 25), (4, 3, 0))]:
            self.check((FIVE, falls), 3, 3, (0, 0, 0, 0, 0))

    def test_it_heals_the_run_and_then_renumbers_it(self):
        run = (FOUR, ((0, 1, 2), (3, 2, 0)))
        path = self.check(run, 2, 2, (9, 9, 9, 9))
        there = path.index((FOUR, ()))
        self.assertEqual({each[0] for each in path[:there]}, {FOUR})
        for each in path[there:]:
            self.assertLessEqual(len(each[1]), 2)

    def test_to_the_run_itself_and_to_the_same_without_falls(self):
        self.check((FIVE, ()), 3, 2, FIVE)
        self.check((FIVE, ((0, 1, 0), (3, 1, 2))), 3, 2, FIVE)

    def test_the_longest_numbers(self):
        self.check((FOUR, ((0, 1, 0),)), 2, 1, (FIGURES, -FIGURES, 0, -1))

    def test_just_ahead_of_the_closing_round(self):
        for falls, rounds in [(((0, 1, 0), (1, 1, 0)), 2), (((0, 1, 0), (1, 1, 0), (2, 1, 0)), 1)]:
            run = (FIVE, falls)
            self.assertEqual(closing_round(run, 3), rounds + 1)
            self.assertGreater(waste_of(run), 0)
            self.check(run, 3, rounds, (0, 0, 0, 0, 0))
            self.assertRaises(Closed, chain_of, run, 3, rounds + 1, (0, 0, 0, 0, 0))

    def test_told_twice_is_two_lists(self):
        for run, numbers in [((FOUR, ()), FOUR), ((FOUR, ((1, 1, 0),)), (0, 0, 0, 0))]:
            told = chain_of(run, 2, 1, numbers)
            right = list(told)
            told.append("other")
            told[0] = None
            self.assertEqual(chain_of(run, 2, 1, numbers), right)


class RefusalTest(unittest.TestCase):
    def refused(self, error, run, bound, rounds, numbers):
        before = copy.deepcopy((bound, numbers))
        with self.subTest(run=run, bound=repr(bound)[:60], rounds=rounds, numbers=repr(numbers)[:60]):
            with self.assertRaises(error) as taken:
                chain_of(run, bound, rounds, numbers)
            self.assertIs(type(taken.exception), error)
            self.assertEqual((bound, numbers), before)

    def test_bounds_that_are_none(self):
        for bound in NO_BOUNDS:
            self.refused(NoBound, (FIVE, ()), bound, 0, FIVE)
            self.refused(NoBound, (FIVE, ((1, 1, 0),)), bound, 1, FIVE)

    def test_bounds_that_the_run_does_not_keep(self):
        for many in range(2, 6):
            numbers = tuple(range(many))
            self.refused(NoBound, (numbers, ()), many - 1, 0, numbers)
        falls = ((0, 1, 0), (2, 5, 0), (3, 2, 23))
        for fallen in range(1, 4):
            self.refused(NoBound, (FIVE, falls[:fallen]), fallen - 1, 0, FIVE)
        for bound in range(4):
            self.refused(NoBound, (FIVE, falls + ((4, 5, 0),)), bound, 0, FIVE)

    def test_numbers_that_no_run_of_five_hands_has(self):
        for numbers in NO_NUMBERS:
            self.refused(NoNumbers, (FIVE, ()), 3, 0, numbers)
            self.refused(NoNumbers, (FIVE, ((1, 1, 0),)), 2, 1, numbers)

    def test_numbers_for_more_and_for_fewer_hands(self):
        for many in range(2, 6):
            for other in range(2, 6):
                if other != many:
                    self.refused(NoNumbers, (tuple(range(many)), ()), 0, 0, tuple(range(other)))

    def test_closed(self):
        for bound in range(4):
            for rounds in range(bound + 1, 5):
                self.refused(Closed, (FIVE, ()), bound, rounds, (0, 0, 0, 0, 0))
        for run, bound in kept()[::17]:
            for rounds in range(closing_round(run, bound), 5):
                self.refused(Closed, run, bound, rounds, run[0])

    def test_several_at_once(self):
        for bound in NO_BOUNDS:
            self.refused(NoBound, (FIVE, ()), bound, 0, (1, 2, 3))
            self.refused(NoBound, (FIVE, ()), bound, 4, FIVE)
            self.refused(NoBound, (FIVE, ()), bound, 4, [1, 2, 3, 4, 5])
        for numbers in NO_NUMBERS:
            self.refused(NoNumbers, (FIVE, ()), 3, 4, numbers)
            self.refused(NoNumbers, (FIVE, ((0, 1, 0), (1, 1, 0))), 2, 2, numbers)
            self.refused(NoBound, (FIVE, ((0, 1, 0), (1, 1, 0))), 1, 0, numbers)
            self.refused(NoBound, (FIVE, ((0, 1, 0), (1, 1, 0))), 1, 4, numbers)


if __name__ == "__main__":
    unittest.main()
