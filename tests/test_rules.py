import unittest

from helper import clean_by_words, contained_by_words, each_view, lacking_by_words
from roundfall.rules import plain, soon, sure, together, waste_seen
from roundfall.views import is_clean, views_of

NOBODY = ((6, 5, -4, 3, 2), ())
# Hand 1 falls in round 1 and reaches hand 0 alone.
ONE_FALLS = ((3, 1, 2), ((1, 1, 1),))
# Hand 3 falls in round 1 and reaches hand 0 alone, which falls in round 2 and reaches hand 2 alone.
# So behind 1, 2, 3, 4 rounds hand 1 is clean from 3 rounds on, hand 2 behind 2 and 4 rounds.
ONE_BEHIND_THE_OTHER = ((4, 3, 2, 1), ((0, 2, 4), (3, 1, 1)))
# Hands 2, 3 and 4 fall in round 1; hand 4 reaches hand 0, and nobody else is reached.
THREE_AT_ONCE = ((5, 4, 3, 2, 1), ((2, 1, 0), (3, 1, 0), (4, 1, 1)))
# Hands 0 and 1 fall in round 1: hand 0 reaches hands 1 and 2, hand 1 reaches hand 3.
TWO_IN_ONE_ROUND = ((4, 3, 2, 1), ((0, 1, 6), (1, 1, 8)))


def told_by(rule, run, hand, bound):
    """What the rule tells for the hand's views behind 0 to 4 rounds."""
    return [rule(views_of(run, rounds)[hand], bound) for rounds in range(5)]


def least_by_words(view, rounds):
    return min(each[1] for behind, each in contained_by_words(view, rounds) if behind == 0)


def waste_by_words(view, rounds):
    many = [bin(lacking_by_words(view, rounds, by)).count("1") - by for by in range(1, rounds)]
    return max([0] + many)


def past_by_words(view, rounds):
    """Pairs (rounds, view) of the view and its own ones behind fewer rounds."""
    told = [(rounds, view)]
    while rounds > 0:
        view = view[1][view[0]]
        rounds -= 1
        told.append((rounds, view))
    return told


class PlainTest(unittest.TestCase):
    def test_behind_the_bound_and_one_or_more(self):
        for hand in range(5):
            self.assertEqual(told_by(plain, NOBODY, hand, 0), [None, -4, -4, -4, -4])
            self.assertEqual(told_by(plain, NOBODY, hand, 1), [None, None, -4, -4, -4])
            self.assertEqual(told_by(plain, NOBODY, hand, 2), [None, None, None, -4, -4])
            self.assertEqual(told_by(plain, NOBODY, hand, 3), [None, None, None, None, -4])

    def test_the_least_that_the_view_knows(self):
        self.assertEqual(told_by(plain, ONE_FALLS, 2, 0), [None, 2, 1, 1, 1])
        self.assertEqual(told_by(plain, ONE_BEHIND_THE_OTHER, 1, 0), [None, 2, 2, 1, 1])

    def test_nought_is_a_number(self):
        self.assertEqual(told_by(plain, ((0, 5), ()), 1, 0), [None, 0, 0, 0, 0])


class SoonTest(unittest.TestCase):
    def test_clean_behind_one_round(self):
        for bound in range(4):
            self.assertEqual(told_by(soon, NOBODY, 1, bound), [None, -4, -4, -4, -4])

    def test_one_that_heard_of_all_and_one_that_did_not(self):
        self.assertEqual(told_by(soon, ONE_FALLS, 0, 3), [None, 1, None, 1, 1])
        self.assertEqual(told_by(soon, ONE_FALLS, 2, 3), [None, None, 1, 1, 1])

    def test_clean_behind_more_rounds(self):
        self.assertEqual(told_by(soon, ONE_BEHIND_THE_OTHER, 1, 3), [None, None, None, 1, 1])
        self.assertEqual(told_by(soon, ONE_BEHIND_THE_OTHER, 2, 3), [None, None, 1, None, 1])

    def test_behind_the_bound_and_one_clean_or_not(self):
        self.assertEqual(told_by(soon, ONE_BEHIND_THE_OTHER, 1, 0), [None, 2, 2, 1, 1])
        self.assertEqual(told_by(soon, ONE_BEHIND_THE_OTHER, 1, 1), [None, None, 2, 1, 1])
        self.assertEqual(told_by(soon, ONE_BEHIND_THE_OTHER, 2, 2), [None, None, 1, 1, 1])


class SureTest(unittest.TestCase):
    def test_a_round_behind_a_clean_one(self):
        for bound in range(1, 4):
            self.assertEqual(told_by(sure, NOBODY, 1, bound), [None, None, -4, -4, -4])
        self.assertEqual(told_by(sure, NOBODY, 1, 0), [None, -4, -4, -4, -4])

    def test_clean_itself_alone_is_not_enough(self):
        view = views_of(ONE_BEHIND_THE_OTHER, 2)[2]
        self.assertIs(is_clean(view), True)
        self.assertEqual([sure(view, bound) for bound in range(4)], [1, 1, None, None])
        view = views_of(NOBODY, 1)[0]
        self.assertIs(is_clean(view), True)
        self.assertEqual([sure(view, bound) for bound in range(4)], [-4, None, None, None])

    def test_a_clean_one_in_its_past_though_not_clean_itself(self):
        view = views_of(ONE_BEHIND_THE_OTHER, 3)[2]
        self.assertIs(is_clean(view), False)
        self.assertEqual([sure(view, bound) for bound in range(4)], [1, 1, 1, 1])

    def test_a_clean_one_long_past(self):
        run = ((9, 8, 7, 6), ((0, 2, 4), (3, 3, 2)))
        views = [views_of(run, rounds)[1] for rounds in range(5)]
        self.assertEqual([is_clean(view) for view in views], [False, True, False, True, False])
        self.assertEqual([sure(view, 3) for view in views], [None, None, 6, 6, 6])

    def test_a_hand_that_is_clean_late(self):
        self.assertEqual(told_by(sure, ONE_BEHIND_THE_OTHER, 1, 3), [None, None, None, None, 1])
        self.assertEqual(told_by(sure, ONE_FALLS, 2, 3), [None, None, None, 1, 1])


class TogetherTest(unittest.TestCase):
    def test_without_waste(self):
        for bound in range(4):
            self.assertEqual(told_by(together, NOBODY, 3, bound), told_by(plain, NOBODY, 3, bound))
            self.assertEqual(told_by(together, ONE_FALLS, 2, bound), told_by(plain, ONE_FALLS, 2, bound))

    def test_with_waste_sooner(self):
        for hand in (0, 1):
            self.assertEqual(told_by(together, THREE_AT_ONCE, hand, 3), [None, None, 1, 1, 1])
            self.assertEqual(told_by(together, THREE_AT_ONCE, hand, 2), [None, None, 1, 1, 1])
        for hand in (2, 3):
            self.assertEqual(told_by(together, TWO_IN_ONE_ROUND, hand, 2), [None, None, 1, 1, 1])
            self.assertEqual(told_by(together, TWO_IN_ONE_ROUND, hand, 3), [None, None, None, 1, 1])

    def test_clean_or_not(self):
        self.assertEqual(told_by(together, ONE_BEHIND_THE_OTHER, 2, 2), [None, None, None, 1, 1])


class WasteSeenTest(unittest.TestCase):
    def seen_by(self, run, hand):
        return [waste_seen(views_of(run, rounds)[hand]) for rounds in range(5)]

    def test_none_behind_no_round_and_behind_one(self):
        for rounds, view in each_view(1):
            self.assertEqual(waste_seen(view), 0)

    def test_three_at_once(self):
        self.assertEqual(self.seen_by(THREE_AT_ONCE, 0), [0, 0, 2, 2, 2])
        self.assertEqual(self.seen_by(THREE_AT_ONCE, 1), [0, 0, 2, 2, 2])

    def test_what_the_other_one_lacks(self):
        self.assertEqual(self.seen_by(TWO_IN_ONE_ROUND, 2), [0, 0, 1, 1, 1])
        self.assertEqual(self.seen_by(TWO_IN_ONE_ROUND, 3), [0, 0, 1, 1, 1])

    def test_falls_that_all_heard_are_seen_a_round_later(self):
        run = ((1, 2, 3, 4, 5), ((0, 1, 24), (1, 1, 24), (2, 1, 24)))
        self.assertEqual(self.seen_by(run, 3), [0, 0, 0, 1, 1])

    def test_the_greatest_of_several_rounds(self):
        run = ((1, 2, 3, 4, 5), ((0, 1, 0), (1, 2, 0), (2, 2, 0)))
        self.assertEqual(self.seen_by(run, 4), [0, 0, 0, 1, 1])
        run = ((1, 2, 3, 4, 5), ((0, 1, 0), (1, 1, 0), (2, 4, 0)))
        self.assertEqual(self.seen_by(run, 4), [0, 0, 1, 1, 1])

    def test_one_in_each_round_wastes_nothing(self):
        run = ((1, 2, 3, 4, 5), ((0, 1, 0), (1, 2, 0), (2, 3, 0)))
        self.assertEqual(self.seen_by(run, 4), [0, 0, 0, 0, 0])


class ByTheWordsTest(unittest.TestCase):
    def setUp(self):
        self.views = list(each_view(3)) + [pair for pair in list(each_view(4))[::17] if pair[0] == 4]

    def tells_by_words(self, rule, view, rounds, bound):
        if rule == together:
            return rounds >= bound + 1 - waste_by_words(view, rounds)
        clean = [behind for behind, past in past_by_words(view, rounds) if clean_by_words(past, behind)]
        also = {plain: False, soon: rounds in clean, sure: clean != [] and min(clean) < rounds}
        return rounds >= bound + 1 or also[rule]

    def test_waste_seen(self):
        seen = set()
        for rounds, view in self.views:
            right = waste_by_words(view, rounds)
            self.assertEqual(waste_seen(view), right)
            seen.add(right)
        self.assertEqual(seen, {0, 1, 2, 3})

    def test_each_rule(self):
        for rounds, view in self.views[::3]:
            least = least_by_words(view, rounds)
            for rule in (plain, soon, sure, together):
                for bound in range(4):
                    right = least if self.tells_by_words(rule, view, rounds, bound) else None
                    self.assertEqual(rule(view, bound), right, (rule.__name__, bound, view))

    def test_each_rule_hangs_on_the_view_alone(self):
        order = self.views[::29]
        first = [[rule(view, 2) for rule in (plain, soon, sure, together)] for rounds, view in order]
        again = [[rule(view, 2) for rule in (plain, soon, sure, together)] for rounds, view in reversed(order)]
        self.assertEqual(again[::-1], first)


if __name__ == "__main__":
    unittest.main()
