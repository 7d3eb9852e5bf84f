"""What all hands together do by the four rules, in many runs that keep a bound."""

import itertools
import unittest
import zlib

from helper import all_falls, breaking_fault, few_falls, held, kept, path_fault, variants
from roundfall.alike import alike_to
from roundfall.breaking import broken, told_by
from roundfall.chains import chain_of
from roundfall.classes import classes
from roundfall.plays import choices
from roundfall.rules import plain, soon, sure, together
from roundfall.runs import keeps, who_is_up
from roundfall.views import rounds_of, views_of
from roundfall.waste import closing_round, is_open
from roundfall.worlds import worlds

KEPT = kept()
# The bound and 1, for the greatest bound: behind so many rounds all who are up have chosen by each rule.
LAST = 4


def chosen(rule, run, bound, rounds):
    return choices(held(rule, bound), run, rounds)


def never_fall(run):
    fallen = [fall[0] for fall in run[1]]
    return [hand for hand in range(len(run[0])) if hand not in fallen]


def state_of(run, bound, rounds):
    """Open, or the choices by together of those who are up."""
    if is_open(run, bound, rounds):
        return "open"
    told = chosen(together, run, bound, rounds)
    numbers = {told[hand][1] if told[hand] else None for hand in who_is_up(run, rounds)}
    return tuple(sorted(numbers, key=repr))


class WholeTest(unittest.TestCase):
    def test_plain(self):
        for run, bound in KEPT:
            told = chosen(plain, run, bound, bound + 1)
            there = {told[hand] for hand in who_is_up(run, bound + 1)}
            self.assertEqual(len(there), 1, (run, bound))
            self.assertEqual(there.pop()[0], bound + 1, (run, bound))

    def test_soon(self):
        for run, bound in KEPT:
            rounds = len(run[1]) + 1
            told = chosen(soon, run, bound, rounds)
            self.assertNotIn(None, [told[hand] for hand in who_is_up(run, rounds)], (run, bound))
            last = chosen(soon, run, bound, LAST)
            self.assertEqual(len({last[hand][1] for hand in never_fall(run)}), 1, (run, bound))

    def test_sure(self):
        for run, bound in KEPT:
            rounds = min(len(run[1]) + 2, bound + 1)
            told = chosen(sure, run, bound, rounds)
            self.assertNotIn(None, [told[hand] for hand in who_is_up(run, rounds)], (run, bound))
            last = chosen(sure, run, bound, LAST)
            self.assertEqual(len({choice[1] for choice in last if choice is not None}), 1, (run, bound))

    def test_together(self):
        for run, bound in KEPT:
            rounds = closing_round(run, bound)
            self.assertEqual(chosen(together, run, bound, rounds - 1), [None] * len(run[0]), (run, bound))
            told = chosen(together, run, bound, rounds)
            there = {told[hand] for hand in who_is_up(run, rounds)}
            self.assertEqual(len(there), 1, (run, bound))
            self.assertEqual(there.pop()[0], rounds, (run, bound))

    def test_each_number_chosen_is_one_that_some_hand_began_with(self):
        for run, bound in KEPT:
            for rule in (plain, soon, sure, together):
                for choice in chosen(rule, run, bound, bound + 1):
                    self.assertTrue(choice is None or choice[1] in run[0], (run, bound))

    def test_one_that_falls_may_choose_unlike_by_soon_but_not_by_sure(self):
        run = ((3, 2, 1, 4), ((0, 2, 0), (2, 1, 1)))
        self.assertEqual(chosen(soon, run, 2, 3), [(1, 1), (3, 2), None, (3, 2)])
        self.assertEqual(chosen(sure, run, 2, 3), [None, (3, 2), None, (3, 2)])


class AlikeTest(unittest.TestCase):
    """Runs that are alike to anybody are both open, or both closed with the same number chosen."""

    def check_all(self, runs, bound):
        for rounds in range(5):
            first = {}
            for run in runs:
                state = state_of(run, bound, rounds)
                self.assertTrue(state == "open" or (len(state) == 1 and state[0] is not None), (run, bound))
                for view in views_of(run, rounds):
                    if view is not None:
                        self.assertEqual(first.setdefault(view, state), state, (run, bound, rounds))

    def test_all_runs_of_three_hands(self):
        for bound in range(2):
            numbers = itertools.product((0, 1), repeat=3)
            self.check_all([(each, falls) for each in numbers for falls in all_falls(3, 3, bound)], bound)

    def test_runs_of_four_hands(self):
        for bound in range(3):
            numbers = [(0, 1, 1, 1), (1, 1, 1, 1), (1, 0, 1, 1)]
            self.check_all([(each, falls) for each in numbers for falls in few_falls(4, 2, bound)], bound)

    def test_many_runs_and_their_variants(self):
        seen = set()
        for run, bound in KEPT[::7]:
            for other in variants(run):
                if keeps(other, bound):
                    for rounds in range(1, bound + 2):
                        if alike_to(run, other, rounds) != []:
                            state = state_of(run, bound, rounds)
                            self.assertEqual(state_of(other, bound, rounds), state, (run, other, bound, rounds))
                            seen.add((len(run[0]), bound, state == "open"))
        self.assertIn((5, 3, True), seen)
        self.assertIn((5, 3, False), seen)


def numbers_for(place, many):
    """Now and then the numbers of a run that is there, and else others, great and small ones too."""
    told = [(0, 1, 2, 3, 4), (7, 7, 7, 7, 7), (0, 0, 0, 0, 0), (10 ** 60 - 1, -1, 0, 1 - 10 ** 60, 3), (4, 3, 2, 1, 0)]
    return told[place % len(told)][:many]


def odd_rule(seed, first, most):
    """A rule that tells, from some rounds on, one of a few numbers or None, as the view's signs fall out."""
    def rule(view):
        signs = zlib.crc32(repr((seed, view)).encode())
        return (signs >> 8) % most if rounds_of(view) >= first and signs % 3 == 0 else None

    return rule


class ChainTest(unittest.TestCase):
    def test_a_chain_leads_from_each_run_behind_each_number_of_rounds_ahead_of_the_closing_round(self):
        longest = 0
        for place, (run, bound) in enumerate(KEPT[::23]):
            for rounds in range(closing_round(run, bound)):
                numbers = numbers_for(place + rounds, len(run[0]))
                path = chain_of(run, bound, rounds, numbers)
                self.assertIsNone(path_fault(path, rounds), (run, bound, rounds))
                self.assertEqual((path[0], path[-1]), (run, (numbers, ())))
                self.assertTrue(all(keeps(each, bound) for each in path), (run, bound, rounds))
                longest = max(longest, rounds)
        self.assertEqual(longest, 3)


class BreakingTest(unittest.TestCase):
    def test_a_run_is_told_in_which_a_rule_breaks_that_has_chosen_too_soon(self):
        seen = set()
        for place, (run, bound) in enumerate(KEPT[::5]):
            for rounds in range(closing_round(run, bound)):
                rule = odd_rule(place, place % (rounds + 1), place % 3 + 1)
                told = broken(rule, run, bound, rounds)
                self.assertIsNone(breaking_fault(told, rule, run, bound, rounds), (told, run, bound, rounds, place))
                seen.add((len(run[0]), rounds, None if told is None else told[0]))
        for rounds in range(4):
            self.assertIn((5, rounds, "torn"), seen)
            self.assertIn((5, rounds, None), seen)

    def test_each_of_the_four_rules_with_a_bound_that_is_too_small(self):
        seen = set()
        for run, bound in KEPT[::9]:
            for rounds in range(closing_round(run, bound)):
                for rule in (plain, soon, sure, together):
                    for lesser in range(bound):
                        told = broken(held(rule, lesser), run, bound, rounds)
                        self.assertIsNone(breaking_fault(told, held(rule, lesser), run, bound, rounds))
                        seen.add((rule, told is None))
        self.assertEqual(len(seen), 8)

    def test_plain_and_together_with_the_bound_itself_are_never_broken(self):
        for run, bound in KEPT[::9]:
            for rounds in range(closing_round(run, bound)):
                for rule in (plain, together):
                    self.assertIsNone(broken(held(rule, bound), run, bound, rounds))
                    self.assertEqual({number for hand, number in told_by(held(rule, bound), run, rounds)}, {None})


class ClassesTest(unittest.TestCase):
    """The open runs are one class, and a closed class has one number chosen by together."""

    def check(self, runs, bound, rounds):
        states = []
        for each in classes(runs, rounds):
            there = {state_of(runs[place], bound, rounds) for place in each}
            self.assertEqual(len(there), 1, (runs[each[0]], bound, rounds))
            states.append(there.pop())
        still = [run for run in runs if is_open(run, bound, rounds)]
        self.assertEqual(states.count("open"), min(1, len(still)), (bound, rounds))
        for state in states:
            self.assertTrue(state == "open" or (len(state) == 1 and state[0] is not None), state)
        return {state if state == "open" else state[0] for state in states}

    def test_all_runs_of_three_hands_with_two_numbers(self):
        for bound in range(2):
            for falling in range(1, 5):
                runs = worlds([0, 1], 3, bound, falling)
                for rounds in range(5):
                    right = {"open"} if rounds <= bound else {0, 1}
                    self.assertEqual(self.check(runs, bound, rounds), right)

    def test_runs_of_two_hands(self):
        for numbers in ([-4, 9], [0, 1, 2]):
            for rounds in range(5):
                right = {"open"} if rounds == 0 else set(numbers)
                self.assertEqual(self.check(worlds(numbers, 2, 0, 2), 0, rounds), right)

    def test_open_and_closed_runs_side_by_side(self):
        runs = [((7, 7, 7, 7), falls) for falls in all_falls(4, 2, 2)]
        right = [{"open"}, {"open"}, {"open", 7}, {7}]
        for rounds in range(4):
            self.assertEqual(self.check(runs, 2, rounds), right[rounds])


if __name__ == "__main__":
    unittest.main()
