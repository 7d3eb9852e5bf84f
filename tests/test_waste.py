import copy
import unittest

from helper import OTHER_THINGS, kept, many_runs
from roundfall.errors import NoBound, RoundError
from roundfall.runs import keeps
from roundfall.views import lacking, views_of
from roundfall.waste import closing_round, found_out, is_open, waste_of

FIVE = (1, 2, 3, 4, 5)
# Each with those found out behind 0 to 4 rounds, and the waste.
WORKED = [
    # nobody falls
    (((1, 2), ()), [0, 0, 0, 0, 0], 0),
    ((FIVE, ()), [0, 0, 0, 0, 0], 0),
    # one fall that reaches nobody, some, all who are up
    ((FIVE, ((1, 1, 0),)), [0, 2, 2, 2, 2], 0),
    ((FIVE, ((1, 3, 5),)), [0, 0, 0, 2, 2], 0),
    ((FIVE, ((1, 1, 29),)), [0, 0, 2, 2, 2], 0),
    ((FIVE, ((1, 5, 0),)), [0, 0, 0, 0, 0], 0),
    # several in one round: reaching nobody, all, one all and one not
    ((FIVE, ((0, 1, 0), (1, 1, 0))), [0, 3, 3, 3, 3], 1),
    ((FIVE, ((0, 1, 30), (1, 1, 29))), [0, 0, 3, 3, 3], 0),
    ((FIVE, ((0, 1, 30), (1, 1, 5))), [0, 2, 3, 3, 3], 0),
    ((FIVE, ((0, 1, 0), (1, 1, 0), (2, 1, 0))), [0, 7, 7, 7, 7], 2),
    ((FIVE, ((0, 1, 24), (1, 1, 24), (2, 1, 24))), [0, 0, 7, 7, 7], 1),
    ((FIVE, ((0, 1, 0), (1, 1, 0), (2, 1, 0), (3, 1, 0))), [0, 15, 15, 15, 15], 3),
    ((FIVE, ((0, 3, 0), (1, 3, 0), (2, 3, 0))), [0, 0, 0, 7, 7], 0),
    # reaching all who are up but not one that falls in the same round, or that one only
    (((1, 2, 3), ((0, 1, 4), (1, 1, 4))), [0, 0, 3, 3, 3], 0),
    (((1, 2, 3), ((0, 1, 2), (1, 1, 1))), [0, 3, 3, 3, 3], 1),
    (((1, 2, 3), ((0, 1, 2), (1, 1, 4))), [0, 1, 3, 3, 3], 0),
    (((1, 2, 3, 4), ((0, 1, 4), (1, 1, 8))), [0, 3, 3, 3, 3], 1),
    # reaching all who are up, but one that fell earlier
    (((1, 2, 3, 4), ((0, 1, 0), (1, 2, 12))), [0, 1, 1, 3, 3], 0),
    # waste of later rounds
    ((FIVE, ((0, 1, 0), (1, 2, 0), (2, 2, 0))), [0, 1, 7, 7, 7], 1),
    ((FIVE, ((0, 1, 30), (1, 2, 0), (2, 2, 0))), [0, 0, 7, 7, 7], 1),
    ((FIVE, ((0, 1, 0), (1, 2, 0), (2, 3, 0), (3, 3, 0))), [0, 1, 3, 15, 15], 1),
    ((FIVE, ((0, 1, 0), (1, 2, 0), (2, 3, 0))), [0, 1, 3, 7, 7], 0),
    # the round of the greatest waste is not the last one
    ((FIVE, ((0, 1, 0), (1, 1, 0), (2, 4, 0))), [0, 3, 3, 3, 7], 1),
    # all fall, and where nobody is up nobody is found out
    (((1, 2), ((0, 1, 0), (1, 1, 0))), [0, 0, 0, 0, 0], 0),
    (((1, 2), ((0, 1, 0), (1, 2, 0))), [0, 1, 0, 0, 0], 0),
    (((1, 2), ((0, 1, 0), (1, 3, 0))), [0, 1, 1, 0, 0], 0),
    (((1, 2, 3), ((0, 1, 0), (1, 1, 0), (2, 2, 0))), [0, 3, 0, 0, 0], 1),
    (((1, 2, 3), ((0, 1, 6), (1, 1, 5), (2, 2, 0))), [0, 0, 0, 0, 0], 0),
    ((FIVE, ((0, 1, 0), (1, 1, 0), (2, 1, 0), (3, 1, 0), (4, 1, 0))), [0, 0, 0, 0, 0], 0),
    ((FIVE, ((0, 2, 0), (1, 2, 0), (2, 2, 0), (3, 2, 0), (4, 2, 0))), [0, 0, 0, 0, 0], 0),
    ((FIVE, ((0, 1, 0), (1, 1, 0), (2, 2, 0), (3, 2, 0), (4, 3, 0))), [0, 3, 15, 0, 0], 2),
]
NO_BOUNDS = OTHER_THINGS + [-1, -2, -(10 ** 60), 10 ** 60]


def found_by_views(run, rounds):
    mask = 0
    for view in views_of(run, rounds):
        if view is not None:
            mask |= lacking(view, rounds)
    return mask


def found_by_falls(run, rounds):
    fallen = {hand: at for hand, at, reached in run[1]}
    up = [hand for hand in range(len(run[0])) if fallen.get(hand, 9) > rounds]
    hands = {hand for hand, at, reached in run[1] if at < rounds}
    hands |= {hand for hand, at, reached in run[1] if at == rounds and any(not reached >> to & 1 for to in up)}
    return sum(2 ** hand for hand in hands) if up else 0


def waste_by_words(run):
    return max([0] + [bin(found_by_views(run, rounds)).count("1") - rounds for rounds in range(1, 6)])


class FoundOutTest(unittest.TestCase):
    def test_worked_by_hand(self):
        for run, found, waste in WORKED:
            with self.subTest(run):
                self.assertEqual([found_out(run, rounds) for rounds in range(5)], found)

    def test_many_runs_by_their_views(self):
        for run in many_runs() + [run for run, bound in kept()[::3]]:
            for rounds in range(5):
                self.assertEqual(found_out(run, rounds), found_by_views(run, rounds), (run, rounds))

    def test_many_runs_by_their_falls(self):
        for run in many_runs() + [run for run, bound in kept()]:
            for rounds in range(5):
                self.assertEqual(found_out(run, rounds), found_by_falls(run, rounds), (run, rounds))


class WasteTest(unittest.TestCase):
    def test_worked_by_hand(self):
        for run, found, waste in WORKED:
            with self.subTest(run):
                self.assertEqual(waste_of(run), waste)

    def test_many_runs_by_the_words(self):
        seen = set()
        for run in many_runs() + [run for run, bound in kept()[::3]]:
            right = waste_by_words(run)
            self.assertEqual(waste_of(run), right, run)
            seen.add(right)
        self.assertEqual(seen, {0, 1, 2, 3})

    def test_the_numbers_do_not_matter(self):
        for run, found, waste in WORKED:
            self.assertEqual(waste_of((tuple(-9 for number in run[0]), run[1])), waste)


class ClosingTest(unittest.TestCase):
    def test_without_waste_the_bound_and_one(self):
        for many in range(2, 6):
            run = (tuple(range(many)), ())
            for bound in range(many - 1):
                self.assertEqual(closing_round(run, bound), bound + 1)
        self.assertEqual(closing_round((FIVE, ((1, 1, 0),)), 1), 2)
        self.assertEqual(closing_round((FIVE, ((0, 1, 0), (1, 2, 0), (2, 3, 0))), 3), 4)

    def test_with_waste_sooner(self):
        self.assertEqual(closing_round((FIVE, ((0, 1, 0), (1, 1, 0))), 2), 2)
        self.assertEqual(closing_round((FIVE, ((0, 1, 0), (1, 1, 0))), 3), 3)
        self.assertEqual(closing_round((FIVE, ((0, 1, 0), (1, 1, 0), (2, 1, 0))), 3), 2)
        self.assertEqual(closing_round((FIVE, ((0, 1, 0), (1, 2, 0), (2, 2, 0))), 3), 3)
        self.assertEqual(closing_round(((1, 2, 3, 4), ((0, 1, 4), (1, 1, 8))), 2), 2)

    def test_open_just_ahead_and_closed_in_it(self):
        told = [is_open((FIVE, ()), 3, rounds) for rounds in range(5)]
        self.assertEqual(told, [True, True, True, True, False])
        told = [is_open((FIVE, ()), 0, rounds) for rounds in range(5)]
        self.assertEqual(told, [True, False, False, False, False])
        told = [is_open((FIVE, ((0, 1, 0), (1, 1, 0), (2, 1, 0))), 3, rounds) for rounds in range(5)]
        self.assertEqual(told, [True, True, False, False, False])

    def test_many_runs_by_the_words(self):
        for run, bound in kept():
            right = bound + 1 - waste_of(run)
            self.assertEqual(closing_round(run, bound), right)
            for rounds in range(5):
                self.assertIs(is_open(run, bound, rounds), rounds < right)


class NoBoundTest(unittest.TestCase):
    def refused(self, run, bound):
        self.assertRaises(NoBound, closing_round, run, bound)
        for rounds in range(5):
            self.assertRaises(NoBound, is_open, run, bound, rounds)

    def test_bounds_of_other_kinds_below_nought_and_large(self):
        for run in [((1, 2), ()), ((1, 2, 3, 4), ((1, 1, 0),)), (FIVE, ())]:
            for bound in NO_BOUNDS:
                with self.subTest(run=run, bound=repr(bound)[:60]):
                    self.refused(run, bound)

    def test_above_the_hands_less_two(self):
        for many in range(2, 6):
            for bound in range(many - 1, 8):
                self.refused((tuple(range(many)), ()), bound)

    def test_less_than_the_falls(self):
        falls = ((0, 1, 0), (2, 5, 0), (3, 2, 23))
        for fallen in range(4):
            for bound in range(fallen):
                self.refused((FIVE, falls[:fallen]), bound)
            for bound in range(fallen, 4):
                self.assertGreater(closing_round((FIVE, falls[:fallen]), bound), 0)

    def test_refused_where_the_run_keeps_none(self):
        for bound in range(-1, 6):
            self.refused(((1, 2), ((0, 5, 2),)), bound)
            self.refused(((1, 2, 3), ((0, 1, 6), (1, 1, 5), (2, 1, 3))), bound)

    def test_just_those_that_are_not_kept(self):
        for run in many_runs():
            for bound in range(-1, 5):
                if keeps(run, bound):
                    self.assertEqual(closing_round(run, bound), bound + 1 - waste_of(run))
                else:
                    self.refused(run, bound)

    def test_the_refusal_is_a_round_error(self):
        self.assertRaises(RoundError, closing_round, ((1, 2), ()), 1)

    def test_what_is_handed_in_stays_as_it_was(self):
        run = ((1, 2, 3, 4), ((1, 1, 0),))
        for bound in NO_BOUNDS:
            before = copy.deepcopy(bound)
            self.refused(run, bound)
            self.assertEqual(bound, before)


if __name__ == "__main__":
    unittest.main()
