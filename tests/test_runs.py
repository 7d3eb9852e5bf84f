import copy
import unittest

from helper import OTHER_THINGS, many_runs
from roundfall.errors import NoRun, RoundError
from roundfall.runs import (
    comes, fall_of, is_run, keeps, make_run, many_hands, who_is_up, with_fall, with_number, without_fall)

EDGE = 10 ** 60

RUNS = [
    ((0, 0), ()),
    ((5, 0, -7), ((1, 2, 5),)),
    ((1, 2, 3, 4, 5), ()),
    ((1, 2, 3, 4, 5), ((0, 1, 30), (4, 5, 15))),
    ((EDGE - 1, -EDGE + 1), ()),
    ((1, 2), ((0, 1, 0),)),
    ((1, 2), ((1, 5, 1),)),
    ((1, 2), ((0, 3, 2), (1, 3, 1))),
    ((1, 2, 3), ((0, 1, 6), (1, 1, 5), (2, 1, 3))),
    ((7, 7, 7, 7), ((0, 5, 0), (2, 1, 11), (3, 4, 7))),
]

NO_RUNS = [
    # too few hands, too many
    ((), ()),
    ((1,), ()),
    ((1, 2, 3, 4, 5, 6), ()),
    # numbers too large, of other kinds
    ((EDGE, 0), ()),
    ((0, EDGE), ()),
    ((-EDGE, 0), ()),
    ((0, -EDGE), ()),
    ((0, EDGE ** 3), ()),
    ((True, 2), ()),
    ((1, False), ()),
    ((1, None), ()),
    ((1, "2"), ()),
    ((1, (2,)), ()),
    ((1, [2]), ()),
    # lists in the place of tuples
    [(1, 2), ()],
    ([1, 2], ()),
    ((1, 2), []),
    ((1, 2), [(0, 1, 0)]),
    ((1, 2), ([0, 1, 0],)),
    # neither numbers nor falls
    (12, ()),
    ("12", ()),
    (None, ()),
    ((1, 2), None),
    ((1, 2), 0),
    ((1, 2), ""),
    ((1, 2), "ab"),
    # too short, too long
    ((1, 2),),
    ((1, 2), (), ()),
    ((1, 2), (0, 1, 0)),
    ((1, 2), ((),)),
    ((1, 2), ((0, 1),)),
    ((1, 2), ((0, 1, 0, 0),)),
    ((1, 2), (None,)),
    ((1, 2), ("abc",)),
    # a hand that there isn't, or of another kind
    ((1, 2), ((2, 1, 0),)),
    ((1, 2), ((-1, 1, 0),)),
    ((1, 2), ((False, 1, 0),)),
    ((1, 2), ((True, 1, 0),)),
    ((1, 2), ((None, 1, 0),)),
    ((1, 2), (("0", 1, 0),)),
    ((1, 2), (((0,), 1, 0),)),
    # a round that there isn't, or of another kind
    ((1, 2), ((0, 0, 0),)),
    ((1, 2), ((0, 6, 0),)),
    ((1, 2), ((0, -1, 0),)),
    ((1, 2), ((0, True, 0),)),
    ((1, 2), ((0, None, 0),)),
    ((1, 2), ((0, "1", 0),)),
    ((1, 2), ((0, [1], 0),)),
    # the hand itself reached, one that there isn't, below nought, another kind
    ((1, 2), ((0, 1, 1),)),
    ((1, 2), ((1, 1, 2),)),
    ((1, 2), ((0, 1, 3),)),
    ((1, 2), ((0, 1, 4),)),
    ((1, 2), ((0, 1, 6),)),
    ((1, 2, 3, 4, 5), ((0, 1, 32),)),
    ((1, 2), ((0, 1, -1),)),
    ((1, 2), ((0, 1, -2),)),
    ((1, 2), ((0, 1, EDGE),)),
    ((1, 2), ((0, 1, False),)),
    ((1, 2, 3), ((1, 1, True),)),
    ((1, 2), ((0, 1, None),)),
    ((1, 2), ((0, 1, (1,)),)),
    ((1, 2), ((0, 1, "1"),)),
    # unsorted, a hand twice
    ((1, 2, 3), ((1, 1, 0), (0, 1, 0))),
    ((1, 2, 3), ((0, 1, 0), (2, 1, 0), (1, 1, 0))),
    ((1, 2, 3), ((0, 1, 0), (0, 1, 0))),
    ((1, 2, 3), ((0, 1, 0), (0, 2, 0))),
    # the wrong one behind a right one
    ((1, 2, 3), ((0, 1, 0), (2, 1, 4))),
    ((1, 2, 3), ((0, 1, 0), None)),
]


class IsRunTest(unittest.TestCase):
    def test_runs(self):
        for run in RUNS:
            with self.subTest(run):
                self.assertIs(is_run(run), True)

    def test_many_runs(self):
        for run in many_runs():
            self.assertIs(is_run(run), True)

    def test_no_runs(self):
        for thing in NO_RUNS:
            with self.subTest(thing):
                self.assertIs(is_run(thing), False)

    def test_things_of_other_kinds(self):
        for thing in OTHER_THINGS + [0, 1, -1]:
            with self.subTest(repr(thing)[:60]):
                self.assertIs(is_run(thing), False)

    def test_things_of_other_kinds_within(self):
        for thing in OTHER_THINGS:
            with self.subTest(repr(thing)[:60]):
                self.assertIs(is_run(((1, thing), ())), False)
                self.assertIs(is_run(((1, 2), (thing,))), False)
                self.assertIs(is_run(((1, 2, 3), ((thing, 1, 0),))), False)
                self.assertIs(is_run(((1, 2, 3), ((2, thing, 0),))), False)
                self.assertIs(is_run(((1, 2, 3), ((2, 1, thing),))), False)

    def test_each_round_and_each_reach(self):
        for at in range(-1, 9):
            self.assertIs(is_run(((1, 2), ((1, at, 0),))), 1 <= at <= 5)
        for reached in range(-9, 40):
            right = 0 <= reached < 16 and reached not in (4, 5, 6, 7, 12, 13, 14, 15)
            self.assertIs(is_run(((1, 2, 3, 4), ((2, 1, reached),))), right)

    def test_what_is_handed_in_stays_as_it_was(self):
        for thing in NO_RUNS + OTHER_THINGS:
            before = copy.deepcopy(thing)
            is_run(thing)
            self.assertEqual(thing, before)


class MakeRunTest(unittest.TestCase):
    def test_the_tuple(self):
        for run in RUNS:
            with self.subTest(run):
                told = make_run(run[0], run[1])
                self.assertEqual(told, run)
                self.assertIs(type(told), tuple)

    def test_no_runs_are_refused(self):
        pairs = [thing for thing in NO_RUNS if isinstance(thing, tuple) and len(thing) == 2]
        self.assertGreater(len(pairs), 50)
        for numbers, falls in pairs:
            with self.subTest((numbers, falls)):
                with self.assertRaises(NoRun):
                    make_run(numbers, falls)

    def test_things_of_other_kinds_are_refused(self):
        for thing in OTHER_THINGS:
            with self.subTest(repr(thing)[:60]):
                if thing != (1, 2):
                    self.assertRaises(NoRun, make_run, thing, ())
                if thing != ():
                    self.assertRaises(NoRun, make_run, (1, 2), thing)
                self.assertRaises(NoRun, make_run, thing, thing)

    def test_the_refusal_is_a_round_error(self):
        self.assertRaises(RoundError, make_run, (1,), ())

    def test_a_refused_list_stays_as_it_was(self):
        numbers = [1, 2]
        falls = [(1, 1, 0), (0, 1, 0)]
        self.assertRaises(NoRun, make_run, numbers, falls)
        self.assertEqual(numbers, [1, 2])
        self.assertEqual(falls, [(1, 1, 0), (0, 1, 0)])


class PartsTest(unittest.TestCase):
    def test_many_hands(self):
        for many in range(2, 6):
            self.assertEqual(many_hands((tuple(range(many)), ())), many)

    def test_fall_of(self):
        run = ((7, 7, 7, 7), ((0, 5, 0), (2, 1, 11)))
        self.assertEqual([fall_of(run, hand) for hand in range(4)], [(0, 5, 0), None, (2, 1, 11), None])

    def test_fall_of_without_falls(self):
        self.assertIsNone(fall_of(((1, 2), ()), 0))

    def test_with_fall_of_one_that_had_none(self):
        run = ((1, 2, 3, 4), ((1, 2, 5), (2, 1, 8)))
        self.assertEqual(with_fall(run, 0, 3, 6), ((1, 2, 3, 4), ((0, 3, 6), (1, 2, 5), (2, 1, 8))))
        self.assertEqual(with_fall(run, 3, 1, 0), ((1, 2, 3, 4), ((1, 2, 5), (2, 1, 8), (3, 1, 0))))
        gap = ((1, 2, 3, 4), ((0, 5, 2), (3, 1, 0)))
        self.assertEqual(with_fall(gap, 2, 4, 1), ((1, 2, 3, 4), ((0, 5, 2), (2, 4, 1), (3, 1, 0))))
        self.assertEqual(with_fall(((1, 2), ()), 1, 5, 1), ((1, 2), ((1, 5, 1),)))

    def test_with_fall_in_the_place_of_another(self):
        run = ((1, 2, 3, 4), ((0, 1, 2), (1, 2, 5), (2, 1, 8)))
        self.assertEqual(with_fall(run, 1, 4, 0), ((1, 2, 3, 4), ((0, 1, 2), (1, 4, 0), (2, 1, 8))))
        self.assertEqual(with_fall(run, 2, 1, 8), run)
        self.assertEqual(with_fall(run, 0, 5, 14), ((1, 2, 3, 4), ((0, 5, 14), (1, 2, 5), (2, 1, 8))))

    def test_without_fall(self):
        run = ((1, 2, 3), ((0, 1, 2), (2, 2, 1)))
        self.assertEqual(without_fall(run, 0), ((1, 2, 3), ((2, 2, 1),)))
        self.assertEqual(without_fall(run, 2), ((1, 2, 3), ((0, 1, 2),)))

    def test_without_fall_of_one_that_had_none(self):
        run = ((1, 2, 3), ((0, 1, 2), (2, 2, 1)))
        self.assertEqual(without_fall(run, 1), run)
        self.assertEqual(without_fall(((1, 2), ()), 0), ((1, 2), ()))

    def test_with_number(self):
        run = ((1, 2, 3), ((0, 1, 2),))
        self.assertEqual(with_number(run, 0, -9), ((-9, 2, 3), ((0, 1, 2),)))
        self.assertEqual(with_number(run, 1, EDGE - 1), ((1, EDGE - 1, 3), ((0, 1, 2),)))
        self.assertEqual(with_number(run, 2, 0), ((1, 2, 0), ((0, 1, 2),)))
        self.assertEqual(with_number(run, 2, 3), run)

    def test_what_is_told_is_a_run_again(self):
        run = ((1, 2, 3, 4), ((1, 2, 5), (2, 1, 8)))
        for hand in range(4):
            self.assertIs(is_run(with_fall(run, hand, 5, 0)), True)
            self.assertIs(is_run(without_fall(run, hand)), True)
            self.assertIs(is_run(with_number(run, hand, 8)), True)

    def test_the_run_stays_as_it_was(self):
        run = ((1, 2, 3), ((0, 1, 2), (2, 2, 1)))
        with_fall(run, 0, 3, 4)
        with_fall(run, 1, 3, 4)
        without_fall(run, 2)
        with_number(run, 1, 8)
        self.assertEqual(run, ((1, 2, 3), ((0, 1, 2), (2, 2, 1))))


def falls_at(run, hand):
    told = [fall[1] for fall in run[1] if fall[0] == hand]
    return told[0] if told else 99


def comes_by_words(run, by, to, at):
    reached = [hand for fall in run[1] if fall[0] == by for hand in range(5) if fall[2] >> hand & 1]
    written = falls_at(run, by) > at or (falls_at(run, by) == at and to in reached)
    return by != to and written and falls_at(run, to) > at


class UpTest(unittest.TestCase):
    def test_nobody_falls(self):
        for rounds in range(6):
            self.assertEqual(who_is_up(((1, 2, 3, 4, 5), ()), rounds), [0, 1, 2, 3, 4])

    def test_up_until_the_round_of_the_fall(self):
        for at in range(1, 6):
            for rounds in range(6):
                told = who_is_up(((1, 2, 3), ((1, at, 5),)), rounds)
                self.assertEqual(told, [0, 1, 2] if rounds < at else [0, 2])

    def test_several_one_behind_the_other(self):
        run = ((1, 2, 3, 4), ((0, 3, 0), (2, 1, 11), (3, 3, 7)))
        told = [who_is_up(run, rounds) for rounds in range(6)]
        self.assertEqual(told, [[0, 1, 2, 3], [0, 1, 3], [0, 1, 3], [1], [1], [1]])

    def test_all_fall(self):
        run = ((1, 2), ((0, 1, 2), (1, 5, 0)))
        self.assertEqual([who_is_up(run, rounds) for rounds in (0, 1, 4, 5)], [[0, 1], [1], [1], []])

    def test_many_runs(self):
        for run in many_runs():
            for rounds in range(6):
                right = [hand for hand in range(len(run[0])) if falls_at(run, hand) > rounds]
                self.assertEqual(who_is_up(run, rounds), right)

    def test_told_twice_is_two_lists(self):
        run = ((1, 2, 3), ())
        told = who_is_up(run, 1)
        told.append(9)
        self.assertEqual(who_is_up(run, 1), [0, 1, 2])
        self.assertEqual(run, ((1, 2, 3), ()))


class ComesTest(unittest.TestCase):
    def test_without_falls_all_but_to_itself(self):
        run = ((1, 2, 3), ())
        for at in range(1, 6):
            for by in range(3):
                for to in range(3):
                    self.assertIs(comes(run, by, to, at), by != to)

    def test_of_one_that_falls(self):
        for fallen in range(1, 6):
            run = ((1, 2, 3), ((1, fallen, 4),))
            for at in range(1, 6):
                self.assertIs(comes(run, 1, 2, at), at <= fallen)
                self.assertIs(comes(run, 1, 0, at), at < fallen)
                self.assertIs(comes(run, 1, 1, at), False)

    def test_to_one_that_falls(self):
        for fallen in range(1, 6):
            run = ((1, 2, 3), ((1, fallen, 4),))
            for at in range(1, 6):
                self.assertIs(comes(run, 0, 1, at), at < fallen)
                self.assertIs(comes(run, 0, 2, at), True)

    def test_both_fall_in_one_round(self):
        run = ((1, 2, 3), ((0, 2, 6), (1, 2, 1)))
        self.assertIs(comes(run, 0, 1, 1), True)
        self.assertIs(comes(run, 0, 1, 2), False)
        self.assertIs(comes(run, 1, 0, 2), False)
        self.assertIs(comes(run, 0, 2, 2), True)
        self.assertIs(comes(run, 1, 2, 2), False)

    def test_reached_counts_in_the_round_of_the_fall_alone(self):
        run = ((1, 2, 3), ((0, 3, 4),))
        self.assertEqual([comes(run, 0, 1, at) for at in range(1, 6)], [True, True, False, False, False])
        self.assertEqual([comes(run, 0, 2, at) for at in range(1, 6)], [True, True, True, False, False])

    def test_many_runs(self):
        for run in many_runs():
            hands = range(len(run[0]))
            for at in range(1, 6):
                told = [comes(run, by, to, at) for by in hands for to in hands]
                self.assertEqual(told, [comes_by_words(run, by, to, at) for by in hands for to in hands])


class KeepsTest(unittest.TestCase):
    def test_from_nought_to_the_hands_less_two(self):
        for many in range(2, 6):
            run = (tuple(range(many)), ())
            for bound in range(-3, 9):
                self.assertIs(keeps(run, bound), 0 <= bound <= many - 2)

    def test_at_most_that_many_fall(self):
        falls = ((0, 1, 0), (1, 5, 4), (3, 5, 0), (4, 2, 1))
        for fallen in range(5):
            run = ((1, 2, 3, 4, 5), falls[:fallen])
            for bound in range(-1, 7):
                self.assertIs(keeps(run, bound), fallen <= bound <= 3)

    def test_two_hands_keep_nought_alone(self):
        self.assertIs(keeps(((1, 2), ()), 0), True)
        self.assertIs(keeps(((1, 2), ()), 1), False)
        self.assertIs(keeps(((1, 2), ((0, 5, 2),)), 0), False)
        self.assertIs(keeps(((1, 2), ((0, 5, 2),)), 1), False)

    def test_bounds_of_other_kinds(self):
        for thing in OTHER_THINGS:
            with self.subTest(repr(thing)[:60]):
                self.assertIs(keeps(((1, 2, 3, 4), ()), thing), False)

    def test_large_bounds(self):
        self.assertIs(keeps(((1, 2, 3), ()), EDGE), False)
        self.assertIs(keeps(((1, 2, 3), ()), -EDGE), False)


if __name__ == "__main__":
    unittest.main()
