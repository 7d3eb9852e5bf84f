import unittest

from helper import (
    clean_by_words, contained_by_words, each_view, heard_by_words, lacking_by_words, many_runs, view_by_words)
from roundfall.views import (
    heard_of, is_clean, known, lacking, least_known, own_past, rounds_of, views_of)

# Hand 1 falls in round 1 and reaches hand 0 alone.
ONE_FALLS = ((3, 1, 2), ((1, 1, 1),))
# Hand 3 falls in round 1 and reaches hand 0 alone, which falls in round 2 and reaches hand 2 alone.
ONE_BEHIND_THE_OTHER = ((4, 3, 2, 1), ((0, 2, 4), (3, 1, 1)))
# Hands 0 and 1 fall in round 1: hand 0 reaches hands 1 and 2, hand 1 reaches hand 3.
TWO_IN_ONE_ROUND = ((4, 3, 2, 1), ((0, 1, 6), (1, 1, 8)))
NOBODY = ((6, 5, 4, 3, 2), ())


class ViewsOfTest(unittest.TestCase):
    def test_behind_no_round(self):
        self.assertEqual(views_of(ONE_FALLS, 0), [(0, 3), (1, 1), (2, 2)])

    def test_behind_one_round(self):
        first = (0, ((0, 3), (1, 1), (2, 2)))
        third = (2, ((0, 3), None, (2, 2)))
        self.assertEqual(views_of(ONE_FALLS, 1), [first, None, third])

    def test_behind_two_rounds(self):
        first = (0, ((0, 3), (1, 1), (2, 2)))
        third = (2, ((0, 3), None, (2, 2)))
        self.assertEqual(views_of(ONE_FALLS, 2), [(0, (first, None, third)), None, (2, (first, None, third))])

    def test_a_fall_of_the_round_that_reaches_some(self):
        told = views_of(((1, 2, 3), ((0, 2, 4),)), 2)
        one, two, three = [(hand, ((0, 1), (1, 2), (2, 3))) for hand in range(3)]
        self.assertEqual(told, [None, (1, (None, two, three)), (2, (one, two, three))])

    def test_a_fall_is_not_seen_ahead_of_its_round(self):
        self.assertEqual(views_of(((1, 2, 3), ((0, 4, 0),)), 3), views_of(((1, 2, 3), ()), 3))
        self.assertNotEqual(views_of(((1, 2, 3), ((0, 4, 0),)), 4), views_of(((1, 2, 3), ()), 4))

    def test_where_all_have_fallen(self):
        run = ((1, 2), ((0, 1, 2), (1, 2, 1)))
        self.assertEqual(views_of(run, 1), [None, (1, ((0, 1), (1, 2)))])
        self.assertEqual(views_of(run, 2), [None, None])
        self.assertEqual(views_of(run, 4), [None, None])

    def test_many_runs_by_the_words(self):
        for run in many_runs():
            for rounds in range(4):
                right = [view_by_words(run, hand, rounds) for hand in range(len(run[0]))]
                self.assertEqual(views_of(run, rounds), right)

    def test_views_are_tuples_all_through(self):
        for rounds, view in each_view(2):
            for behind, each in contained_by_words(view, rounds):
                self.assertIs(type(each), tuple)
                self.assertEqual(type(each[1]), tuple if behind else int)

    def test_told_twice_is_two_lists(self):
        for rounds in range(3):
            told = views_of(ONE_FALLS, rounds)
            right = list(told)
            told[0] = "other"
            told.append(None)
            self.assertEqual(views_of(ONE_FALLS, rounds), right)
        self.assertEqual(ONE_FALLS, ((3, 1, 2), ((1, 1, 1),)))


class PastTest(unittest.TestCase):
    def test_rounds_of(self):
        for rounds in range(5):
            for view in views_of(NOBODY, rounds):
                self.assertEqual(rounds_of(view), rounds)

    def test_rounds_of_many(self):
        for rounds, view in each_view(4):
            self.assertEqual(rounds_of(view), rounds)

    def test_own_past_by_hand(self):
        third = (2, ((0, 3), None, (2, 2)))
        view = views_of(ONE_FALLS, 2)[2]
        self.assertEqual([own_past(view, rounds) for rounds in range(3)], [(2, 2), third, view])

    def test_own_past_is_the_view_of_that_round(self):
        for run in [NOBODY, ONE_FALLS, ONE_BEHIND_THE_OTHER, TWO_IN_ONE_ROUND]:
            for rounds in range(5):
                for hand, view in enumerate(views_of(run, rounds)):
                    if view is not None:
                        told = [own_past(view, fewer) for fewer in range(rounds + 1)]
                        self.assertEqual(told, [views_of(run, fewer)[hand] for fewer in range(rounds + 1)])


class KnownTest(unittest.TestCase):
    def test_behind_no_round_its_own(self):
        self.assertEqual(known((1, -4)), [(1, -4)])
        self.assertEqual(least_known((1, -4)), -4)

    def test_what_others_hand_on(self):
        behind = [known(views_of(ONE_FALLS, rounds)[2]) for rounds in range(3)]
        self.assertEqual(behind, [[(2, 2)], [(0, 3), (2, 2)], [(0, 3), (1, 1), (2, 2)]])
        least = [least_known(views_of(ONE_FALLS, rounds)[2]) for rounds in range(3)]
        self.assertEqual(least, [2, 2, 1])

    def test_one_fall_behind_the_other(self):
        told = [known(view) for view in views_of(ONE_BEHIND_THE_OTHER, 2)[1:3]]
        self.assertEqual(told, [[(0, 4), (1, 3), (2, 2)], [(0, 4), (1, 3), (2, 2), (3, 1)]])
        self.assertEqual([least_known(view) for view in views_of(ONE_BEHIND_THE_OTHER, 2)[1:3]], [2, 1])
        self.assertEqual(known(views_of(ONE_BEHIND_THE_OTHER, 3)[1]), [(0, 4), (1, 3), (2, 2), (3, 1)])

    def test_one_number_of_several_hands(self):
        self.assertEqual(known(views_of(((5, 5, 5), ()), 1)[1]), [(0, 5), (1, 5), (2, 5)])

    def test_rising_by_hands_and_not_by_numbers(self):
        told = known(views_of(NOBODY, 2)[3])
        self.assertEqual(told, [(0, 6), (1, 5), (2, 4), (3, 3), (4, 2)])

    def test_the_least_may_be_below_nought(self):
        self.assertEqual(least_known(views_of(((5, 0, -7), ()), 1)[0]), -7)

    def test_each_view_of_many_runs(self):
        for rounds, view in each_view(3):
            right = sorted({each for behind, each in contained_by_words(view, rounds) if behind == 0})
            self.assertEqual(known(view), right)
            self.assertEqual(least_known(view), min(pair[1] for pair in right))

    def test_told_twice_is_two_lists(self):
        view = views_of(ONE_FALLS, 1)[2]
        for each in [view, (1, -4)]:
            told = known(each)
            right = list(told)
            told.clear()
            self.assertEqual(known(each), right)


class HeardTest(unittest.TestCase):
    def test_heard_of_all(self):
        for rounds in range(1, 5):
            self.assertEqual([heard_of(view) for view in views_of(NOBODY, rounds)], [31] * 5)

    def test_a_fall_that_reaches_one(self):
        self.assertEqual([heard_of(view) for view in views_of(ONE_FALLS, 1)[::2]], [7, 5])
        self.assertEqual([heard_of(view) for view in views_of(ONE_FALLS, 2)[::2]], [5, 5])

    def test_one_fall_behind_the_other(self):
        self.assertEqual([heard_of(view) for view in views_of(ONE_BEHIND_THE_OTHER, 1)[:3]], [15, 7, 7])
        self.assertEqual([heard_of(view) for view in views_of(ONE_BEHIND_THE_OTHER, 2)[1:3]], [6, 7])
        self.assertEqual([heard_of(view) for view in views_of(ONE_BEHIND_THE_OTHER, 3)[1:3]], [6, 6])

    def test_two_in_one_round(self):
        self.assertEqual([heard_of(view) for view in views_of(TWO_IN_ONE_ROUND, 1)[2:]], [13, 14])

    def test_itself_where_all_others_have_fallen(self):
        run = ((1, 2, 3), ((0, 1, 0), (1, 1, 0)))
        self.assertEqual(heard_of(views_of(run, 1)[2]), 4)

    def test_each_view_of_many_runs(self):
        for rounds, view in each_view(3):
            if rounds > 0:
                self.assertEqual(heard_of(view), heard_by_words(view))


class CleanTest(unittest.TestCase):
    def test_never_behind_no_round(self):
        for view in views_of(NOBODY, 0):
            self.assertIs(is_clean(view), False)

    def test_always_where_nobody_falls(self):
        for rounds in range(1, 5):
            for view in views_of(NOBODY, rounds):
                self.assertIs(is_clean(view), True)

    def test_a_fall_that_reaches_one(self):
        self.assertEqual([is_clean(view) for view in views_of(ONE_FALLS, 1)[::2]], [True, False])
        self.assertEqual([is_clean(view) for view in views_of(ONE_FALLS, 2)[::2]], [False, True])
        self.assertEqual([is_clean(view) for view in views_of(ONE_FALLS, 3)[::2]], [True, True])

    def test_one_fall_behind_the_other(self):
        told = [[is_clean(view) for view in views_of(ONE_BEHIND_THE_OTHER, rounds)[1:3]] for rounds in range(1, 5)]
        self.assertEqual(told, [[False, False], [False, True], [True, False], [True, True]])

    def test_a_fall_in_round_one_that_all_heard(self):
        run = ((1, 2, 3), ((0, 1, 6),))
        self.assertEqual([is_clean(view) for view in views_of(run, 1)[1:]], [True, True])
        self.assertEqual([is_clean(view) for view in views_of(run, 2)[1:]], [False, False])

    def test_each_view_of_many_runs(self):
        for rounds, view in each_view(3):
            self.assertIs(is_clean(view), clean_by_words(view, rounds))


class LackingTest(unittest.TestCase):
    def test_none_where_nobody_falls(self):
        for rounds in range(5):
            for by in range(6):
                self.assertEqual([lacking(view, by) for view in views_of(NOBODY, rounds)], [0] * 5)

    def test_by_no_round_nobody_lacks(self):
        for rounds, view in each_view(2):
            self.assertEqual(lacking(view, 0), 0)

    def test_in_a_view_behind_no_round_nobody_lacks(self):
        for by in range(6):
            self.assertEqual(lacking((0, 3), by), 0)

    def test_a_fall_that_reaches_one(self):
        told = [[lacking(view, by) for by in range(6)] for view in views_of(ONE_FALLS, 1)[::2]]
        self.assertEqual(told, [[0, 0, 0, 0, 0, 0], [0, 2, 2, 2, 2, 2]])
        told = [[lacking(view, by) for by in range(6)] for view in views_of(ONE_FALLS, 2)[::2]]
        self.assertEqual(told, [[0, 2, 2, 2, 2, 2], [0, 2, 2, 2, 2, 2]])

    def test_one_fall_behind_the_other(self):
        told = [[lacking(view, by) for by in range(6)] for view in views_of(ONE_BEHIND_THE_OTHER, 2)[1:3]]
        self.assertEqual(told, [[0, 8, 9, 9, 9, 9], [0, 8, 8, 8, 8, 8]])
        told = [[lacking(view, by) for by in range(6)] for view in views_of(ONE_BEHIND_THE_OTHER, 3)[1:3]]
        self.assertEqual(told, [[0, 8, 9, 9, 9, 9], [0, 8, 9, 9, 9, 9]])

    def test_a_fall_that_all_heard_lacks_a_round_later(self):
        view = views_of(((1, 2, 3), ((0, 1, 6),)), 3)[1]
        self.assertEqual([lacking(view, by) for by in range(6)], [0, 0, 1, 1, 1, 1])

    def test_two_in_one_round(self):
        told = [[lacking(view, by) for by in range(4)] for view in views_of(TWO_IN_ONE_ROUND, 1)[2:]]
        self.assertEqual(told, [[0, 2, 2, 2], [0, 1, 1, 1]])
        told = [[lacking(view, by) for by in range(4)] for view in views_of(TWO_IN_ONE_ROUND, 2)[2:]]
        self.assertEqual(told, [[0, 3, 3, 3], [0, 3, 3, 3]])

    def test_each_view_of_many_runs(self):
        for rounds, view in each_view(3):
            told = [lacking(view, by) for by in range(6)]
            self.assertEqual(told, [lacking_by_words(view, rounds, by) for by in range(6)])


if __name__ == "__main__":
    unittest.main()
