import unittest

from helper import OTHER_THINGS
from roundfall.masks import hands_in, is_whole, mask_of


class IsWholeTest(unittest.TestCase):
    def test_ints(self):
        for thing in [0, 1, -1, 5, 10 ** 60, -(10 ** 60), 10 ** 200]:
            with self.subTest(thing):
                self.assertIs(is_whole(thing), True)

    def test_truths_are_none(self):
        self.assertIs(is_whole(True), False)
        self.assertIs(is_whole(False), False)

    def test_other_things_are_none(self):
        for thing in OTHER_THINGS:
            with self.subTest(repr(thing)[:60]):
                self.assertIs(is_whole(thing), False)


class MaskOfTest(unittest.TestCase):
    def test_no_hands(self):
        self.assertEqual(mask_of([]), 0)

    def test_each_hand_alone(self):
        self.assertEqual([mask_of([hand]) for hand in range(5)], [1, 2, 4, 8, 16])

    def test_several_in_any_order(self):
        self.assertEqual(mask_of([0, 2]), 5)
        self.assertEqual(mask_of([4, 1, 3]), 26)
        self.assertEqual(mask_of([4, 3, 2, 1, 0]), 31)

    def test_a_hand_twice_counts_once(self):
        self.assertEqual(mask_of([2, 2]), 4)
        self.assertEqual(mask_of([0, 3, 0, 3, 3]), 9)

    def test_the_list_stays_as_it_was(self):
        hands = [3, 0, 3]
        mask_of(hands)
        self.assertEqual(hands, [3, 0, 3])

    def test_hands_somewhat_beyond(self):
        self.assertEqual(mask_of([5, 7]), 160)


class HandsInTest(unittest.TestCase):
    def test_no_hands(self):
        self.assertEqual(hands_in(0), [])

    def test_some(self):
        self.assertEqual(hands_in(1), [0])
        self.assertEqual(hands_in(16), [4])
        self.assertEqual(hands_in(26), [1, 3, 4])
        self.assertEqual(hands_in(31), [0, 1, 2, 3, 4])

    def test_each_mask_below_32_there_and_back(self):
        for mask in range(32):
            hands = hands_in(mask)
            self.assertEqual(hands, sorted(set(hands)))
            self.assertEqual(sum(2 ** hand for hand in hands), mask)
            self.assertEqual(mask_of(hands), mask)

    def test_masks_somewhat_beyond(self):
        self.assertEqual(hands_in(160), [5, 7])

    def test_told_twice_is_two_lists(self):
        told = hands_in(5)
        told.append(9)
        self.assertEqual(hands_in(5), [0, 2])


if __name__ == "__main__":
    unittest.main()
