import unittest

from helper import held, many_runs
from roundfall.plays import choice_by, choices
from roundfall.rules import plain, soon, sure, together
from roundfall.views import own_past, rounds_of, views_of

# Hand 0 falls in round 1, hand 1 in round 3, hand 2 in round 5.
THREE_FALLS = ((5, 6, 7, 8), ((0, 1, 0), (1, 3, 4), (2, 5, 0)))
# Hand 1 falls in round 1 and reaches hand 0 alone.
ONE_FALLS = ((3, 1, 2), ((1, 1, 1),))
# Hand 3 falls in round 1 and reaches hand 0 alone, which falls in round 2 and reaches hand 2 alone.
ONE_BEHIND_THE_OTHER = ((4, 3, 2, 1), ((0, 2, 4), (3, 1, 1)))
# Hands 2, 3 and 4 fall in round 1; hand 4 reaches hand 0, and nobody else is reached.
THREE_AT_ONCE = ((5, 4, 3, 2, 1), ((2, 1, 0), (3, 1, 0), (4, 1, 1)))


def behind(several):
    """A rule that tells behind just these rounds, in another round another number."""
    return lambda view: 10 * rounds_of(view) + view[0] if rounds_of(view) in several else None


def choice_by_words(rule, run, hand, rounds):
    for fewer in range(rounds + 1):
        view = views_of(run, fewer)[hand]
        if view is None:
            return None
        if rule(view) is not None:
            return (fewer, rule(view))
    return None


class ChoiceByTest(unittest.TestCase):
    def setUp(self):
        self.view = views_of(THREE_FALLS, 4)[3]

    def test_the_first_view_for_which_the_rule_tells(self):
        for first in range(5):
            rule = behind(range(first, 5))
            self.assertEqual(choice_by(rule, self.view), (first, 10 * first + 3))

    def test_a_rule_that_tells_and_then_does_not(self):
        self.assertEqual(choice_by(behind([1]), self.view), (1, 13))
        self.assertEqual(choice_by(behind([1, 3]), self.view), (1, 13))
        self.assertEqual(choice_by(behind([0, 4]), self.view), (0, 3))

    def test_at_most_the_view_itself(self):
        for rounds in range(5):
            view = own_past(self.view, rounds)
            self.assertEqual(choice_by(behind([rounds]), view), (rounds, 10 * rounds + 3))
            self.assertIsNone(choice_by(behind([rounds + 1]), view))

    def test_behind_no_round(self):
        self.assertEqual(choice_by(behind([0]), (2, 7)), (0, 2))
        self.assertIsNone(choice_by(behind([1]), (2, 7)))

    def test_a_rule_that_tells_nothing(self):
        self.assertIsNone(choice_by(lambda view: None, self.view))

    def test_nought_and_numbers_below_are_numbers(self):
        for number in [0, -1, -(10 ** 60)]:
            self.assertEqual(choice_by(lambda view: number, self.view), (0, number))
            self.assertEqual(choice_by(lambda view: number if rounds_of(view) > 1 else None, self.view), (2, number))

    def test_a_tuple_of_two(self):
        told = choice_by(behind([2]), self.view)
        self.assertIs(type(told), tuple)
        self.assertEqual([type(part) for part in told], [int, int])

    def test_the_rule_is_asked_of_its_own_views_alone(self):
        asked = []
        choice_by(asked.append, self.view)
        self.assertEqual(set(asked), {own_past(self.view, rounds) for rounds in range(5)})


class ChoicesTest(unittest.TestCase):
    def test_behind_no_round(self):
        self.assertEqual(choices(behind([0]), THREE_FALLS, 0), [(0, 0), (0, 1), (0, 2), (0, 3)])
        self.assertEqual(choices(behind([1]), THREE_FALLS, 0), [None] * 4)

    def test_a_hand_that_falls_in_round_one_has_its_beginning(self):
        for rounds in range(5):
            self.assertEqual(choices(behind([0]), THREE_FALLS, rounds)[0], (0, 0))
            self.assertIsNone(choices(behind([1, 2, 3, 4]), THREE_FALLS, rounds)[0])

    def test_a_hand_that_falls_in_a_later_round(self):
        for rounds in (2, 3, 4):
            self.assertEqual(choices(behind([2]), THREE_FALLS, rounds), [None, (2, 21), (2, 22), (2, 23)])
        for rounds in (3, 4):
            self.assertEqual(choices(behind([3, 4]), THREE_FALLS, rounds), [None, None, (3, 32), (3, 33)])

    def test_a_hand_that_falls_behind_the_rounds_asked(self):
        self.assertEqual(choices(behind([1]), THREE_FALLS, 1), [None, (1, 11), (1, 12), (1, 13)])
        self.assertEqual(choices(behind([2]), THREE_FALLS, 1), [None] * 4)
        self.assertEqual(choices(behind([4]), THREE_FALLS, 4), [None, None, (4, 42), (4, 43)])
        self.assertEqual(choices(behind([4]), THREE_FALLS, 3), [None] * 4)

    def test_where_all_fall(self):
        run = ((1, 2), ((0, 1, 2), (1, 2, 1)))
        self.assertEqual(choices(behind([0]), run, 4), [(0, 0), (0, 1)])
        self.assertEqual(choices(behind([1]), run, 4), [None, (1, 11)])
        self.assertEqual(choices(behind([2]), run, 4), [None, None])

    def test_nought_below_nought_and_nothing(self):
        for rounds in range(5):
            self.assertEqual(choices(lambda view: 0, THREE_FALLS, rounds), [(0, 0)] * 4)
            self.assertEqual(choices(lambda view: -5, THREE_FALLS, rounds), [(0, -5)] * 4)
            self.assertEqual(choices(lambda view: None, THREE_FALLS, rounds), [None] * 4)

    def test_a_rule_may_tell_what_nobody_began_with(self):
        self.assertEqual(choices(lambda view: 99, ((1, 2), ()), 3), [(0, 99), (0, 99)])

    def test_the_rule_is_asked_of_views_of_the_run_alone_and_of_so_many_rounds(self):
        for rounds in range(5):
            asked = []
            choices(asked.append, THREE_FALLS, rounds)
            there = [view for fewer in range(rounds + 1) for view in views_of(THREE_FALLS, fewer)]
            self.assertEqual(set(asked), {view for view in there if view is not None})

    def test_plain(self):
        self.assertEqual(choices(held(plain, 2), ONE_BEHIND_THE_OTHER, 2), [None] * 4)
        for rounds in (3, 4):
            self.assertEqual(choices(held(plain, 2), ONE_BEHIND_THE_OTHER, rounds), [None, (3, 1), (3, 1), None])

    def test_soon(self):
        self.assertEqual(choices(held(soon, 2), ONE_BEHIND_THE_OTHER, 0), [None] * 4)
        self.assertEqual(choices(held(soon, 2), ONE_BEHIND_THE_OTHER, 2), [(1, 1), None, (2, 1), None])
        self.assertEqual(choices(held(soon, 2), ONE_BEHIND_THE_OTHER, 4), [(1, 1), (3, 1), (2, 1), None])
        self.assertEqual(choices(held(soon, 1), ONE_FALLS, 4), [(1, 1), None, (2, 1)])

    def test_sure(self):
        self.assertEqual(choices(held(sure, 3), ONE_BEHIND_THE_OTHER, 4), [None, (4, 1), (3, 1), None])
        self.assertEqual(choices(held(sure, 2), ONE_BEHIND_THE_OTHER, 4), [None, (3, 1), (3, 1), None])
        self.assertEqual(choices(held(sure, 1), ONE_FALLS, 4), [(2, 1), None, (2, 1)])

    def test_together(self):
        self.assertEqual(choices(held(together, 3), THREE_AT_ONCE, 1), [None] * 5)
        self.assertEqual(choices(held(together, 3), THREE_AT_ONCE, 4), [(2, 1), (2, 1), None, None, None])
        self.assertEqual(choices(held(together, 2), ONE_BEHIND_THE_OTHER, 4), [None, (3, 1), (3, 1), None])

    def test_many_runs_by_the_words(self):
        for run in many_runs()[::5]:
            for rule in [behind([1, 3]), behind([2, 4]), held(soon, 3), held(sure, 2)]:
                for rounds in range(5):
                    right = [choice_by_words(rule, run, hand, rounds) for hand in range(len(run[0]))]
                    self.assertEqual(choices(rule, run, rounds), right)

    def test_told_twice_is_two_lists(self):
        for rounds in range(3):
            told = choices(behind([1]), ONE_FALLS, rounds)
            right = list(told)
            told[0] = "other"
            told.append(None)
            self.assertEqual(choices(behind([1]), ONE_FALLS, rounds), right)
        self.assertEqual(ONE_FALLS, ((3, 1, 2), ((1, 1, 1),)))


if __name__ == "__main__":
    unittest.main()
