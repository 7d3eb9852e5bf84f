import unittest

from helper import many_runs, up_by_words, variants, view_by_words
from roundfall.alike import alike_to
from roundfall.runs import who_is_up


def behind_each(run, other):
    return [alike_to(run, other, rounds) for rounds in range(5)]


def alike_by_words(run, other, rounds):
    told = []
    for hand in range(len(run[0])):
        if up_by_words(run, hand, rounds) and up_by_words(other, hand, rounds):
            if view_by_words(run, hand, rounds) == view_by_words(other, hand, rounds):
                told.append(hand)
    return told


class AlikeTest(unittest.TestCase):
    def both_ways(self, run, other, right):
        self.assertEqual(behind_each(run, other), right)
        self.assertEqual(behind_each(other, run), right)

    def test_a_run_and_itself_to_all_who_are_up(self):
        for run in many_runs():
            self.assertEqual(behind_each(run, run), [who_is_up(run, rounds) for rounds in range(5)])

    def test_where_all_have_fallen_to_nobody(self):
        run = ((1, 2), ((0, 1, 2), (1, 3, 1)))
        self.both_ways(run, run, [[0, 1], [1], [1], [], []])

    def test_one_number_that_all_hear(self):
        self.both_ways(((1, 2, 3), ()), ((1, 2, 9), ()), [[0, 1], [], [], [], []])

    def test_one_number_that_nobody_hears(self):
        falls = ((2, 1, 0),)
        self.both_ways(((1, 2, 3), falls), ((1, 2, 9), falls), [[0, 1]] * 5)

    def test_one_number_that_one_hears_and_hands_on(self):
        falls = ((2, 1, 1),)
        self.both_ways(((1, 2, 3), falls), ((1, 2, 9), falls), [[0, 1], [1], [], [], []])

    def test_one_number_that_is_handed_on_by_one_that_falls(self):
        falls = ((0, 2, 4), (3, 1, 1))
        right = [[0, 1, 2], [1, 2], [1], [], []]
        self.both_ways(((4, 3, 2, 1), falls), ((4, 3, 2, 0), falls), right)

    def test_all_numbers(self):
        self.both_ways(((1, 2, 3), ()), ((4, 5, 6), ()), [[]] * 5)

    def test_one_hand_reached(self):
        one = ((1, 2, 3, 4), ((0, 2, 2),))
        two = ((1, 2, 3, 4), ((0, 2, 6),))
        self.both_ways(one, two, [[0, 1, 2, 3], [0, 1, 2, 3], [1, 3], [], []])

    def test_one_hand_reached_that_falls_and_reaches_nobody(self):
        one = ((1, 2, 3, 4), ((0, 2, 2), (2, 3, 0)))
        two = ((1, 2, 3, 4), ((0, 2, 6), (2, 3, 0)))
        self.both_ways(one, two, [[0, 1, 2, 3], [0, 1, 2, 3], [1, 3], [1, 3], [1, 3]])

    def test_one_hand_reached_that_falls_and_reaches_one(self):
        one = ((1, 2, 3, 4), ((0, 2, 2), (2, 3, 8)))
        two = ((1, 2, 3, 4), ((0, 2, 6), (2, 3, 8)))
        self.both_ways(one, two, [[0, 1, 2, 3], [0, 1, 2, 3], [1, 3], [1], []])

    def test_one_hand_reached_that_falls_in_the_same_round(self):
        one = ((1, 2, 3, 4), ((0, 2, 2), (2, 2, 11)))
        two = ((1, 2, 3, 4), ((0, 2, 6), (2, 2, 11)))
        self.both_ways(one, two, [[0, 1, 2, 3], [0, 1, 2, 3], [1, 3], [1, 3], [1, 3]])

    def test_one_fall_that_reaches_all(self):
        one = ((1, 2, 3), ())
        two = ((1, 2, 3), ((1, 2, 5),))
        self.both_ways(one, two, [[0, 1, 2], [0, 1, 2], [0, 2], [], []])

    def test_one_fall_that_reaches_one(self):
        one = ((1, 2, 3), ())
        two = ((1, 2, 3), ((1, 2, 1),))
        self.both_ways(one, two, [[0, 1, 2], [0, 1, 2], [0], [], []])

    def test_one_fall_that_reaches_nobody(self):
        one = ((1, 2, 3), ())
        two = ((1, 2, 3), ((1, 2, 0),))
        self.both_ways(one, two, [[0, 1, 2], [0, 1, 2], [], [], []])

    def test_a_fall_of_a_later_round_is_not_seen(self):
        self.both_ways(((1, 2, 3), ()), ((1, 2, 3), ((1, 5, 0),)), [[0, 1, 2]] * 5)

    def test_reaching_all_is_reaching_nobody_a_round_later(self):
        one = ((1, 2, 3), ((1, 1, 5),))
        two = ((1, 2, 3), ((1, 2, 0),))
        self.both_ways(one, two, [[0, 1, 2], [0, 2], [0, 2], [0, 2], [0, 2]])

    def test_hands_that_are_up_in_one_run_alone(self):
        one = ((1, 2, 3), ((0, 1, 6),))
        two = ((1, 2, 3), ((1, 1, 5),))
        self.both_ways(one, two, [[0, 1, 2], [2], [], [], []])

    def test_variants_of_many_runs_by_the_words(self):
        seen = set()
        for run in many_runs()[::9]:
            for other in variants(run)[::2]:
                for rounds in range(4 if len(run[0]) < 5 else 3):
                    right = alike_by_words(run, other, rounds)
                    self.assertEqual(alike_to(run, other, rounds), right)
                    self.assertEqual(alike_to(other, run, rounds), right)
                    seen.add((rounds, len(right)))
        self.assertGreater(len(seen), 15)

    def test_told_twice_is_two_lists(self):
        one = ((1, 2, 3), ((1, 1, 5),))
        two = ((1, 2, 3), ((1, 2, 0),))
        for rounds in range(5):
            told = alike_to(one, two, rounds)
            right = list(told)
            told.append(9)
            self.assertEqual(alike_to(one, two, rounds), right)
        self.assertEqual((one, two), (((1, 2, 3), ((1, 1, 5),)), ((1, 2, 3), ((1, 2, 0),))))


if __name__ == "__main__":
    unittest.main()
