import unittest

from roundfall import errors
from roundfall.errors import RoundError

NAMES = ["NoRun", "NoBound", "NoNumbers", "Closed", "NoText", "NoRow", "NoName"]


class ErrorsTest(unittest.TestCase):
    def test_round_error_stands_under_value_error(self):
        self.assertEqual(RoundError.__bases__, (ValueError,))

    def test_each_stands_straight_under_round_error_alone(self):
        for name in NAMES:
            with self.subTest(name):
                self.assertEqual(getattr(errors, name).__bases__, (RoundError,))

    def test_each_is_a_class_of_its_own(self):
        told = [getattr(errors, name) for name in NAMES]
        self.assertEqual(len(set(told)), len(NAMES))
        self.assertEqual([one.__name__ for one in told], NAMES)

    def test_each_is_raised_with_free_words_and_taken_as_any_refusal(self):
        for name in NAMES:
            with self.subTest(name):
                with self.assertRaises(RoundError):
                    raise getattr(errors, name)("words")


if __name__ == "__main__":
    unittest.main()
