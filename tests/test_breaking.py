import unittest

from helper import OTHER_THINGS, breaking_fault, held, kept, many_runs
from roundfall.breaking import broken, told_by
from roundfall.errors import Closed, NoBound
from roundfall.rules import plain, soon, sure, together
from roundfall.runs import who_is_up
from roundfall.views import heard_of, known, least_known, own_past, rounds_of, views_of
from roundfall.waste import closing_round

FOUR = (4, 3, 2, 1)
FIVE = (5, 4, 3, 2, 1)
# Hand 1 falls in round 1 and reaches hand 0 alone; hand 3 in round 2 and reaches nobody.
TWO_FALLS = (FOUR, ((1, 1, 1), (3, 2, 0)))
NO_BOUNDS = OTHER_THINGS + [-1, -2, 4, 5, 10 ** 60, -(10 ** 60)]


def nothing(view):
    return None


def beginning(view):
    return own_past(view, 0)[1]


def always(number):
    return lambda view: number


def least_behind(rounds):
    return lambda view: least_known(view) if rounds_of(view) == rounds else None


def greatest_behind(rounds):
    return lambda view: max(number for hand, number in known(view)) if rounds_of(view) == rounds else None


def of_hand(hand, number):
    return lambda view: number if view[0] == hand else None


def of_who_knows(number):
    return lambda view: number if number in [each for hand, each in known(view)] else None


def many_heard(view):
    return None if rounds_of(view) == 0 else bin(heard_of(view)).count("1")


def all_sum(view):
    return sum(number for hand, number in known(view)) if rounds_of(view) > 0 else None


RULES = [nothing, beginning, many_heard, all_sum]
RULES += [always(number) for number in (0, 1, 4, 5, 99, -1, -(10 ** 60), 10 ** 70)]
RULES += [least_behind(rounds) for rounds in range(4)]
RULES += [greatest_behind(rounds) for rounds in range(4)]
RULES += [of_hand(0, 0), of_hand(2, 1), of_hand(4, -7)]
RULES += [of_who_knows(number) for number in (0, 1, 2, 4)]
RULES += [held(rule, bound) for rule in (plain, soon, sure, together) for bound in range(4)]


def told_by_words(rule, run, rounds):
    told = []
    for hand in who_is_up(run, rounds):
        numbers = [rule(views_of(run, fewer)[hand]) for fewer in range(rounds + 1)]
        told.append((hand, ([number for number in numbers if number is not None] + [None])[0]))
    return told


class ToldByTest(unittest.TestCase):
    def test_by_rising_hands_that_are_up(self):
        self.assertEqual(told_by(beginning, TWO_FALLS, 0), [(0, 4), (1, 3), (2, 2), (3, 1)])
        self.assertEqual(told_by(beginning, TWO_FALLS, 1), [(0, 4), (2, 2), (3, 1)])
        for rounds in (2, 3, 4):
            self.assertEqual(told_by(beginning, TWO_FALLS, rounds), [(0, 4), (2, 2)])

    def test_the_first_that_the_rule_tells(self):
        self.assertEqual(told_by(many_heard, TWO_FALLS, 0), [(0, None), (1, None), (2, None), (3, None)])
        self.assertEqual(told_by(many_heard, TWO_FALLS, 1), [(0, 4), (2, 3), (3, 3)])
        self.assertEqual(told_by(many_heard, TWO_FALLS, 4), [(0, 4), (2, 3)])

    def test_one_that_has_been_told_keeps_it_though_the_rule_tells_no_more(self):
        self.assertEqual(told_by(least_behind(1), TWO_FALLS, 1), [(0, 1), (2, 1), (3, 1)])
        self.assertEqual(told_by(least_behind(1), TWO_FALLS, 3), [(0, 1), (2, 1)])
        self.assertEqual(told_by(least_behind(3), TWO_FALLS, 2), [(0, None), (2, None)])

    def test_some_and_none(self):
        self.assertEqual(told_by(of_hand(2, 0), TWO_FALLS, 1), [(0, None), (2, 0), (3, None)])
        self.assertEqual(told_by(of_who_knows(3), TWO_FALLS, 1), [(0, 3), (2, None), (3, None)])
        self.assertEqual(told_by(of_who_knows(3), TWO_FALLS, 2), [(0, 3), (2, 3)])

    def test_nothing_and_always(self):
        for rounds in range(5):
            up = who_is_up(TWO_FALLS, rounds)
            self.assertEqual(told_by(nothing, TWO_FALLS, rounds), [(hand, None) for hand in up])
            self.assertEqual(told_by(always(0), TWO_FALLS, rounds), [(hand, 0) for hand in up])

    def test_the_four_rules(self):
        run = ((3, 1, 2), ((1, 1, 1),))
        self.assertEqual(told_by(held(plain, 1), run, 1), [(0, None), (2, None)])
        self.assertEqual(told_by(held(plain, 1), run, 2), [(0, 1), (2, 1)])
        self.assertEqual(told_by(held(soon, 1), run, 1), [(0, 1), (2, None)])
        self.assertEqual(told_by(held(plain, 0), run, 1), [(0, 1), (2, 2)])
        self.assertEqual(told_by(held(together, 0), run, 0), [(0, None), (1, None), (2, None)])

    def test_where_nobody_is_up(self):
        run = ((1, 2), ((0, 1, 2), (1, 2, 1)))
        self.assertEqual(told_by(always(5), run, 1), [(1, 5)])
        self.assertEqual(told_by(always(5), run, 2), [])

    def test_many_runs_by_the_words(self):
        for place, run in enumerate(many_runs()[::7]):
            rule = RULES[place % len(RULES)]
            for rounds in range(5):
                self.assertEqual(told_by(rule, run, rounds), told_by_words(rule, run, rounds), (place, run, rounds))

    def test_told_twice_is_two_lists(self):
        told = told_by(beginning, TWO_FALLS, 1)
        told[0] = "other"
        told.append(None)
        self.assertEqual(told_by(beginning, TWO_FALLS, 1), [(0, 4), (2, 2), (3, 1)])


class BrokenTest(unittest.TestCase):
    def check(self, rule, run, bound, rounds):
        told = broken(rule, run, bound, rounds)
        self.assertIsNone(breaking_fault(told, rule, run, bound, rounds), (told, run, bound, rounds))
        return told

    def test_rules_that_tell_nothing(self):
        for run, bound in [((FOUR, ()), 2), (TWO_FALLS, 2), ((FIVE, ()), 3)]:
            for rounds in range(bound + 1):
                self.assertIsNone(broken(nothing, run, bound, rounds))
                self.assertIsNone(broken(held(plain, bound), run, bound, rounds))
                self.assertIsNone(broken(held(together, bound), run, bound, rounds))
                self.assertIsNone(broken(least_behind(rounds + 1), run, bound, rounds))

    def test_what_one_that_is_gone_has_been_told_does_not_count(self):
        self.assertIsNone(broken(of_hand(1, 7), TWO_FALLS, 2, 1))
        self.assertIsNone(broken(of_hand(3, 7), TWO_FALLS, 2, 2))
        self.assertIsNotNone(self.check(of_hand(3, 7), TWO_FALLS, 2, 1))
        self.assertIsNotNone(self.check(of_hand(1, 7), TWO_FALLS, 2, 0))

    def test_nought_is_a_number_that_has_been_told(self):
        for rounds in range(3):
            told = self.check(always(0), TWO_FALLS, 2, rounds)
            self.assertEqual(told[0], "strange")
            self.check(of_hand(2, 0), TWO_FALLS, 2, rounds)

    def test_always_one_number_is_never_torn(self):
        for number in (0, 1, 2, 4, 99, -1, -(10 ** 60), 10 ** 70):
            for rounds in range(3):
                for run in [(FOUR, ()), TWO_FALLS, ((1, 1, 1, 1), ()), ((0, 0, 0, 0), ())]:
                    self.assertEqual(self.check(always(number), run, 2, rounds)[0], "strange")

    def test_the_own_beginning_is_never_strange(self):
        for rounds in range(3):
            for run in [(FOUR, ()), TWO_FALLS, ((1, 1, 1, 1), ()), ((0, 0, 0, 0), ())]:
                self.assertEqual(self.check(beginning, run, 2, rounds)[0], "torn")

    def test_rules_that_tell_nothing_where_others_begin(self):
        for number in (0, 1, 4):
            for rounds in (1, 2):
                run = ((number, 8, 8, 8), ())
                self.assertEqual(self.check(of_who_knows(number), run, 2, rounds)[0], "torn")

    def test_torn_found_far_off_on_the_chain(self):
        for bound in (1, 2, 3):
            for rounds in range(1, bound + 1):
                told = self.check(held(plain, rounds - 1), (FIVE, ()), bound, rounds)
                self.assertEqual(told[0], "torn")
                self.assertNotEqual(told[1], (FIVE, ()))

    def test_two_hands_and_bound_nought(self):
        for rule in RULES:
            for numbers in [(1, 2), (0, 0), (1, 1)]:
                self.check(rule, (numbers, ()), 0, 0)

    def test_every_rule_in_some_runs(self):
        runs = [((FIVE, ()), 3), ((FIVE, ((0, 1, 30), (2, 2, 0))), 3), (TWO_FALLS, 2), (((1, 1, 1), ((0, 1, 2),)), 1)]
        runs += [((FIVE, ((0, 1, 0), (1, 1, 0))), 3), ((FOUR, ((2, 2, 1),)), 1)]
        for rule in RULES:
            for run, bound in runs:
                for rounds in range(closing_round(run, bound)):
                    self.check(rule, run, bound, rounds)

    def test_many_runs(self):
        seen = set()
        for place, (run, bound) in enumerate(kept()[::3]):
            for rounds in range(closing_round(run, bound)):
                told = self.check(RULES[(place + rounds) % len(RULES)], run, bound, rounds)
                seen.add(None if told is None else told[0])
        self.assertEqual(seen, {None, "torn", "strange"})

    def test_a_tuple(self):
        self.assertIs(type(broken(beginning, (FOUR, ()), 2, 1)), tuple)
        self.assertIs(type(broken(always(9), (FOUR, ()), 2, 1)), tuple)

    def test_the_rule_is_asked_of_so_many_rounds_at_most(self):
        asked = []

        def rule(view):
            asked.append(rounds_of(view))
            return 7 if rounds_of(view) == 1 else None

        self.check(rule, TWO_FALLS, 2, 1)
        self.assertEqual(max(asked), 1)


class RefusalTest(unittest.TestCase):
    def refused(self, error, run, bound, rounds):
        def rule(view):
            raise AssertionError("asked ahead of the refusal")

        with self.subTest(run=run, bound=repr(bound)[:60], rounds=rounds):
            with self.assertRaises(error) as taken:
                broken(rule, run, bound, rounds)
            self.assertIs(type(taken.exception), error)
            self.assertRaises(error, broken, nothing, run, bound, rounds)
            self.assertRaises(error, broken, always(0), run, bound, rounds)

    def test_bounds_that_are_none(self):
        for bound in NO_BOUNDS:
            self.refused(NoBound, (FIVE, ()), bound, 0)

    def test_bounds_that_the_run_does_not_keep(self):
        for many in range(2, 6):
            self.refused(NoBound, (tuple(range(many)), ()), many - 1, 0)
        self.refused(NoBound, TWO_FALLS, 1, 0)
        self.refused(NoBound, TWO_FALLS, 0, 0)

    def test_closed(self):
        for bound in range(4):
            for rounds in range(bound + 1, 5):
                self.refused(Closed, (FIVE, ()), bound, rounds)
        for run, bound in kept()[::17]:
            for rounds in range(closing_round(run, bound), 5):
                self.refused(Closed, run, bound, rounds)

    def test_both_at_once(self):
        for bound in NO_BOUNDS:
            self.refused(NoBound, (FIVE, ()), bound, 4)
        self.refused(NoBound, (FIVE, ((0, 1, 0), (1, 1, 0))), 1, 4)


if __name__ == "__main__":
    unittest.main()
