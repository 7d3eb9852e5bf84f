import unittest

from helper import hushable, path_fault
from roundfall.hushing import hushed

HUSHABLE = hushable()
FOUR = (1, 2, 3, 4)
FIVE = (1, 2, 3, 4, 5)
# (run, hand, at, rounds), and the last run of the path.
WORKED = [
    # in the last round
    ((((1, 2, 3), ()), 0, 1, 1), ((1, 2, 3), ((0, 1, 0),))),
    ((((1, 2, 3), ()), 2, 4, 4), ((1, 2, 3), ((2, 4, 0),))),
    (((FIVE, ()), 3, 2, 2), (FIVE, ((3, 2, 0),))),
    # a round ahead of it, and more
    (((FOUR, ()), 1, 1, 2), (FOUR, ((1, 1, 0),))),
    (((FOUR, ()), 1, 3, 4), (FOUR, ((1, 3, 0),))),
    (((FIVE, ()), 0, 1, 3), (FIVE, ((0, 1, 0),))),
    (((FIVE, ()), 4, 2, 4), (FIVE, ((4, 2, 0),))),
    # behind the last round
    ((((1, 2), ()), 0, 1, 0), ((1, 2), ())),
    ((((1, 2, 3), ((1, 2, 0),)), 0, 3, 2), ((1, 2, 3), ((1, 2, 0),))),
    (((FIVE, ((1, 5, 0), (2, 3, 1))), 0, 5, 4), (FIVE, ((1, 5, 0), (2, 3, 1)))),
    # with falls of the round itself, that reach all, some and nobody
    (((FOUR, ((0, 1, 14),)), 1, 1, 1), (FOUR, ((0, 1, 14), (1, 1, 0)))),
    (((FOUR, ((2, 2, 9),)), 1, 2, 2), (FOUR, ((1, 2, 0), (2, 2, 9)))),
    (((FIVE, ((2, 1, 0),)), 4, 1, 2), (FIVE, ((2, 1, 0), (4, 1, 0)))),
    (((FIVE, ((0, 1, 2), (2, 1, 0))), 1, 1, 1), (FIVE, ((0, 1, 2), (1, 1, 0), (2, 1, 0)))),
    # with falls ahead of it
    (((FOUR, ((0, 1, 0),)), 3, 2, 2), (FOUR, ((0, 1, 0), (3, 2, 0)))),
    (((FIVE, ((4, 1, 6),)), 0, 2, 3), (FIVE, ((0, 2, 0), (4, 1, 6)))),
    (((FIVE, ((1, 1, 1), (3, 2, 0))), 2, 3, 3), (FIVE, ((1, 1, 1), (2, 3, 0), (3, 2, 0)))),
    (((FIVE, ((1, 1, 1), (3, 4, 16))), 2, 4, 4), (FIVE, ((1, 1, 1), (2, 4, 0), (3, 4, 16)))),
]


def last_by_words(run, hand, at, rounds):
    if at == rounds + 1:
        return run
    return (run[0], tuple(sorted(run[1] + ((hand, at, 0),))))


class HushedTest(unittest.TestCase):
    def check(self, run, hand, at, rounds):
        path = hushed(run, hand, at, rounds)
        self.assertIsNone(path_fault(path, rounds), (run, hand, at, rounds))
        self.assertEqual(path[0], run)
        self.assertEqual(path[-1], last_by_words(run, hand, at, rounds))
        most = len(run[1]) + rounds + 1 - at
        for each in path:
            self.assertLessEqual(len(each[1]), most, (run, hand, at, rounds, each))
        self.assertLessEqual(len(path), 600)

    def test_worked_by_hand(self):
        for handed, last in WORKED:
            with self.subTest(handed):
                self.assertEqual(hushed(*handed)[-1], last)
                self.check(*handed)

    def test_many(self):
        for handed in HUSHABLE:
            self.check(*handed)

    def test_many_hold_what_they_should(self):
        ahead = {rounds - at for run, hand, at, rounds in HUSHABLE}
        self.assertEqual(ahead, {-1, 0, 1, 2})
        for back in (-1, 0, 1):
            rounds_of_falls = {at - fall[1] for run, hand, at, rounds in HUSHABLE
                               if rounds - at == back for fall in run[1]}
            self.assertEqual(rounds_of_falls, set(range(4 - back)))

    def test_every_hand(self):
        for hand in range(5):
            self.check((FIVE, ()), hand, 1, 2)
            self.check((FIVE, ()), hand, 3, 4)
        for hand in (0, 2, 3, 4):
            self.check((FIVE, ((1, 1, 5),)), hand, 1, 2)
            self.check((FIVE, ((1, 1, 5),)), hand, 2, 2)

    def test_behind_the_last_round_the_run_alone(self):
        for rounds in range(5):
            for run in [((1, 2), ()), (FOUR, ((1, 1, 0),)), (FIVE, ((0, rounds + 1, 30), (3, rounds + 1, 0)))]:
                self.assertEqual(hushed(run, 2 if len(run[0]) > 2 else 1, rounds + 1, rounds), [run])

    def test_five_hands_from_the_first_round_on(self):
        for hand in range(5):
            self.check((FIVE, ()), hand, 1, 3)

    def test_the_same_numbers_all_along(self):
        numbers = (-(10 ** 59), 0, 0, 10 ** 60 - 1, 7)
        for run in hushed((numbers, ()), 2, 1, 3):
            self.assertEqual(run[0], numbers)

    def test_the_other_falls_stay_in_the_last_run_as_they_were(self):
        run = (FIVE, ((1, 1, 9), (3, 1, 0)))
        self.assertEqual(hushed(run, 0, 1, 1)[-1], (FIVE, ((0, 1, 0), (1, 1, 9), (3, 1, 0))))

    def test_told_twice_is_two_lists(self):
        for handed, last in WORKED:
            before = repr(handed)
            told = hushed(*handed)
            right = list(told)
            told.append("other")
            told[0] = None
            self.assertEqual(hushed(*handed), right)
            self.assertEqual(repr(handed), before)


if __name__ == "__main__":
    unittest.main()
