import copy
import unittest
import zlib

from helper import all_falls, kept, many_runs, variants
from roundfall.alike import alike_to
from roundfall.classes import classes
from roundfall.worlds import worlds

NOBODY_UP = [
    ((1, 2), ((0, 1, 2), (1, 1, 1))),
    ((1, 2), ((0, 1, 0), (1, 1, 0))),
    ((1, 9), ((0, 1, 0), (1, 1, 0))),
]


def classes_by_words(runs, rounds):
    """Goes, from each run that has no class yet, to all that are alike to one that has been come to."""
    told = []
    left = list(range(len(runs)))
    while left:
        found = [left.pop(0)]
        for place in found:
            near = [other for other in left if alike_to(runs[place], runs[other], rounds)]
            left = [other for other in left if other not in near]
            found += near
        told.append(sorted(found))
    return told


class ClassesTest(unittest.TestCase):
    def test_no_run(self):
        for rounds in range(5):
            self.assertEqual(classes([], rounds), [])

    def test_one_run(self):
        for rounds in range(5):
            for run in [((1, 2), ()), ((1, 2, 3), ((0, 1, 2),)), NOBODY_UP[0]]:
                self.assertEqual(classes([run], rounds), [[0]])

    def test_alike_to_no_other_one(self):
        runs = [((1, 2), ()), ((3, 4), ()), ((5, 6), ())]
        for rounds in range(5):
            self.assertEqual(classes(runs, rounds), [[0], [1], [2]])

    def test_two_that_are_alike_ahead_of_a_round_alone(self):
        runs = [((1, 2), ()), ((1, 3), ())]
        self.assertEqual(classes(runs, 0), [[0, 1]])
        self.assertEqual(classes(runs, 1), [[0], [1]])

    def test_by_way_of_a_third_alone(self):
        one, two, third = ((1, 2), ()), ((3, 4), ()), ((1, 4), ())
        self.assertEqual(alike_to(one, two, 0), [])
        self.assertEqual(classes([one, two], 0), [[0], [1]])
        self.assertEqual(classes([one, two, third], 0), [[0, 1, 2]])
        self.assertEqual(classes([third, two, one], 0), [[0, 1, 2]])
        self.assertEqual(classes([one, third, two], 0), [[0, 1, 2]])

    def test_a_long_way_about_in_any_order(self):
        steps = [((step // 2, (step + 1) // 2), ()) for step in range(40)]
        for runs in [steps, steps[::-1], steps[1::2] + steps[::2], steps[::2] + steps[::-1][::2]]:
            self.assertEqual(classes(runs, 0), [list(range(40))])
        self.assertEqual(classes(steps[:17] + steps[18:], 0), [list(range(17)), list(range(17, 39))])
        self.assertEqual(classes(steps[::2], 0), [[place] for place in range(20)])

    def test_a_long_way_about_that_is_joined_at_its_far_end(self):
        lone = [((place, 100 + place), ()) for place in range(20)]
        links = [((place, 99 + place), ()) for place in range(19, 1, -1)]
        runs = lone + links
        self.assertEqual(classes(runs, 0), [[0], list(range(1, len(runs)))])
        for place in range(1, 20):
            self.assertEqual(classes(runs + [((place, 100), ())], 0), [list(range(len(runs) + 1))])

    def test_classes_that_lie_in_one_another(self):
        runs = [((1, 2), ()), ((5, 6), ()), ((1, 3), ()), ((7, 8), ()), ((9, 6), ()), ((4, 3), ())]
        self.assertEqual(classes(runs, 0), [[0, 2, 5], [1, 4], [3]])

    def test_runs_in_which_all_fall(self):
        self.assertEqual(classes(NOBODY_UP, 1), [[0], [1], [2]])
        self.assertEqual(classes(NOBODY_UP, 4), [[0], [1], [2]])
        self.assertEqual(classes(NOBODY_UP, 0), [[0, 1, 2]])
        self.assertEqual(classes(NOBODY_UP + [((1, 2), ()), ((1, 2), ((0, 2, 0),))], 1), [[0], [1], [2], [3, 4]])

    def test_a_fall_that_one_does_not_see(self):
        runs = [((1, 2, 3), ()), ((1, 2, 3), ((0, 1, 2),)), ((1, 2, 3), ((0, 1, 6),))]
        self.assertEqual(classes(runs, 1), [[0, 1, 2]])
        self.assertEqual(classes(runs, 2), [[0], [1], [2]])
        self.assertEqual(classes(runs[:1] + runs[2:], 1), [[0, 1]])

    def test_what_one_hand_knew_another_one_knows_not(self):
        # Hand 0 of the one run, and hand 1 of the other one, have the same number.
        self.assertEqual(classes([((1, 2), ()), ((3, 1), ())], 0), [[0], [1]])

    def check(self, runs, rounds):
        self.assertEqual(classes(runs, rounds), classes_by_words(runs, rounds), (runs[0], len(runs), rounds))

    def test_many_lists_by_the_words(self):
        for rounds in range(4):
            self.check(worlds([0, 1], 2, 1, 1), rounds)
            self.check(worlds([0, 1], 3, 1, 1)[::-1], rounds)
            self.check(worlds([0, 1, 2], 2, 2, 2)[::5], rounds)
            self.check(worlds([7], 3, 3, 1), rounds)
            self.check([((0, 0, 0, 0), falls) for falls in all_falls(4, 2, 2)][::13], rounds)
            self.check([run for run in many_runs() if len(run[0]) == 5][::5], rounds)

    def test_runs_in_any_order_by_the_words(self):
        for most in range(4, 40):
            pairs = [(one, two) for one in range(most) for two in range(most)]
            pairs = sorted(pairs, key=lambda pair: zlib.crc32(repr((most, pair)).encode()))
            runs = [(pair, ()) for pair in pairs[:most]]
            self.check(runs, 0)
            self.check(sorted(runs), 0)
            self.check(sorted(runs, reverse=True), 0)

    def test_runs_and_their_variants_by_the_words(self):
        for run in [run for run, bound in kept()][::97]:
            runs = [run] + [other for other in variants(run) if other != run]
            runs = sorted(set(runs), key=repr)
            for rounds in range(5):
                self.check(runs, rounds)

    def test_each_place_once_each_class_rising_by_their_first_places(self):
        runs = worlds([0, 1], 3, 1, 2)
        for rounds in range(5):
            told = classes(runs[::-1], rounds)
            self.assertEqual(sorted(place for each in told for place in each), list(range(len(runs))))
            for each in told:
                self.assertEqual(each, sorted(each))
            self.assertEqual([each[0] for each in told], sorted(each[0] for each in told))
            self.assertIs(type(told), list)
            self.assertEqual({type(each) for each in told}, {list})

    def test_the_list_handed_in_stays_and_what_is_told_is_new(self):
        runs = [((1, 2), ()), ((1, 3), ()), ((4, 5), ())]
        before = copy.deepcopy(runs)
        told = classes(runs, 0)
        self.assertEqual(runs, before)
        told[0].append(9)
        told.append(None)
        self.assertEqual(classes(runs, 0), [[0, 1], [2]])
        runs.pop()
        self.assertEqual(classes(before, 0), [[0, 1], [2]])


if __name__ == "__main__":
    unittest.main()
