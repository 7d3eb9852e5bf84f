import itertools
import math
import unittest

from helper import all_falls
from roundfall.runs import is_run
from roundfall.worlds import worlds

# (numbers, hands, bound, rounds), each with at most a thousand runs or not many more.
HANDED = [
    (numbers, hands, bound, rounds)
    for numbers in ([5], [-3], [0, 1], [-7, 2], [-1, 0, 1])
    for hands in range(2, 6)
    for bound in range(hands + 1)
    for rounds in range(5)
    if len(numbers) ** hands * sum(math.comb(hands, few) * (rounds * 2 ** (hands - 1)) ** few
                                   for few in range(bound + 1)) <= 1000
]


def count_by_words(numbers, hands, bound, rounds):
    falls = sum(math.comb(hands, few) * (rounds * 2 ** (hands - 1)) ** few for few in range(bound + 1))
    return len(numbers) ** hands * falls


def all_by_words(numbers, hands, bound, rounds):
    begun = itertools.product(numbers, repeat=hands)
    return sorted(itertools.product(begun, all_falls(hands, rounds, bound)))


class WorldsTest(unittest.TestCase):
    def test_worked_by_hand(self):
        self.assertEqual(worlds([5], 2, 1, 1), [
            ((5, 5), ()),
            ((5, 5), ((0, 1, 0),)),
            ((5, 5), ((0, 1, 2),)),
            ((5, 5), ((1, 1, 0),)),
            ((5, 5), ((1, 1, 1),)),
        ])
        self.assertEqual(worlds([-1, 3], 2, 0, 2), [((-1, -1), ()), ((-1, 3), ()), ((3, -1), ()), ((3, 3), ())])
        self.assertEqual(worlds([5], 2, 2, 1), [
            ((5, 5), ()),
            ((5, 5), ((0, 1, 0),)),
            ((5, 5), ((0, 1, 0), (1, 1, 0))),
            ((5, 5), ((0, 1, 0), (1, 1, 1))),
            ((5, 5), ((0, 1, 2),)),
            ((5, 5), ((0, 1, 2), (1, 1, 0))),
            ((5, 5), ((0, 1, 2), (1, 1, 1))),
            ((5, 5), ((1, 1, 0),)),
            ((5, 5), ((1, 1, 1),)),
        ])
        self.assertEqual(worlds([0], 2, 1, 2)[1:5], [((0, 0), ((0, at, mask),)) for at in (1, 2) for mask in (0, 2)])

    def test_counted_by_hand(self):
        self.assertEqual(len(worlds([0, 1], 3, 1, 1)), 8 * 13)
        self.assertEqual(len(worlds([0, 1], 3, 1, 2)), 8 * 25)
        self.assertEqual(len(worlds([0, 1], 3, 3, 1)), 8 * 125)
        self.assertEqual(len(worlds([0, 1, 2], 3, 1, 2)), 27 * 25)
        self.assertEqual(len(worlds([7], 4, 2, 1)), 1 + 4 * 8 + 6 * 64)
        self.assertEqual(len(worlds([7], 5, 1, 4)), 1 + 5 * 16 * 4)
        self.assertEqual(len(worlds([0, 1, 2], 5, 3, 0)), 243)

    def test_none_left_out_each_once_and_in_order(self):
        for handed in HANDED:
            with self.subTest(handed):
                told = worlds(*handed)
                self.assertEqual(len(told), count_by_words(*handed))
                self.assertEqual(len(set(told)), len(told))
                self.assertEqual(told, sorted(told))
                self.assertEqual(told, [tuple(run) for run in all_by_words(*handed)])

    def test_what_is_handed_holds_what_it_should(self):
        self.assertTrue({(2, 2, 2), (3, 3, 1), (3, 0, 4), (4, 2, 1), (5, 1, 4)} <= {each[1:] for each in HANDED})
        self.assertEqual({len(each[0]) for each in HANDED}, {1, 2, 3})

    def test_each_is_a_run(self):
        for handed in HANDED:
            for run in worlds(*handed):
                self.assertTrue(is_run(run), run)
                self.assertEqual(len(run[0]), handed[1])

    def test_without_rounds_or_with_bound_nought_nobody_falls(self):
        for hands in range(2, 6):
            for bound in range(hands + 1):
                self.assertEqual(worlds([4], hands, bound, 0), [((4,) * hands, ())])
            for rounds in range(5):
                self.assertEqual(worlds([4], hands, 0, rounds), [((4,) * hands, ())])

    def test_the_greatest_numbers(self):
        numbers = [1 - 10 ** 60, 10 ** 60 - 1]
        told = worlds(numbers, 2, 0, 0)
        self.assertEqual(told, [((one, two), ()) for one in numbers for two in numbers])

    def test_the_numbers_handed_in_stay_and_what_is_told_is_new(self):
        numbers = [0, 1, 5]
        told = worlds(numbers, 2, 1, 1)
        right = list(told)
        self.assertEqual(numbers, [0, 1, 5])
        told.append("other")
        told[0] = None
        self.assertEqual(worlds(numbers, 2, 1, 1), right)
        numbers.append(9)
        self.assertEqual(worlds([0, 1, 5], 2, 1, 1), right)


if __name__ == "__main__":
    unittest.main()
