import re
import unittest

from helper import all_falls, kept, many_runs
from roundfall.errors import NoText
from roundfall.texts import read_number, read_run, show_run

SIGNS = [chr(code) for code in range(32, 127) if chr(code) != "%"] + ["\n", "\t", "\r"]
SIXTY = "1234567890" * 6
NUMBER = "(0|-?[1-9][0-9]{0,59})"
NUMBERS = [
    ("0", 0), ("1", 1), ("9", 9), ("-1", -1), ("-7", -7), ("10", 10), ("-10", -10), ("100", 100), ("1002003", 1002003),
    (SIXTY, int(SIXTY)), ("-" + SIXTY, -int(SIXTY)), ("9" * 60, 10 ** 60 - 1), ("-" + "9" * 60, 1 - 10 ** 60),
    ("1" + "0" * 59, 10 ** 59),
]
NO_NUMBERS = [
    "", "-", "--1", "-0", "00", "07", "-07", "000", "-00", "0" * 60, "1" * 61, "-" + "1" * 61, "1" + "0" * 60,
    "+1", "+0", "-+1", "1+", "1-", "5-3", "1_0", "_1", "1_", "1 0", " 1", "1 ", "- 1", "-1 ", "\t1", "1\t", "1\n", "\n1",
    "1\n2", "1\t2", "\n", "\t", " ", "1.0", "1e3", "0x1", "0b1", "a", "one", "1a", "a1", "1,000", "1/1", "/", "(1)", "'1'",
    "~", "1" * 500,
]
# A run and its text.
RUNS = [
    (((5, 0, -7), ((1, 2, 5),)), "5 0 -7 / 1@2>02"),
    (((5, 0, -7), ()), "5 0 -7 /"),
    (((0, 0), ()), "0 0 /"),
    (((1, 2), ((0, 1, 0),)), "1 2 / 0@1>"),
    (((1, 2), ((0, 1, 2),)), "1 2 / 0@1>1"),
    (((1, 2), ((0, 5, 2), (1, 1, 0))), "1 2 / 0@5>1 1@1>"),
    (((1, 2, 3, 4), ((0, 1, 14), (3, 2, 7))), "1 2 3 4 / 0@1>123 3@2>012"),
    (((-1, -2, -3, -4, -5), ((4, 3, 15),)), "-1 -2 -3 -4 -5 / 4@3>0123"),
    (((10, 20, 30, 40, 50), ((0, 1, 30), (1, 2, 29), (2, 3, 27), (3, 4, 23), (4, 5, 15))),
     "10 20 30 40 50 / 0@1>1234 1@2>0234 2@3>0134 3@4>0124 4@5>0123"),
    (((1, 2, 3, 4, 5), ((0, 1, 0), (1, 1, 0), (2, 1, 0), (3, 1, 0), (4, 1, 0))),
     "1 2 3 4 5 / 0@1> 1@1> 2@1> 3@1> 4@1>"),
    (((10 ** 60 - 1, 1 - 10 ** 60), ()), "9" * 60 + " -" + "9" * 60 + " /"),
]
NO_RUNS = [
    "", " ", "/", " /", "/ ", "5 0 -7", "5 0 -7 ", "5 0 -7/", "5 0 -7 / ", " 5 0 -7 /", "5  0 -7 /", "5 0 -7  /",
    "5 0 -7 //", "5 0 -7 / /", "/ 5 0 -7 /", "5 0 / -7", "5 0 -7 \\", "5 0 -7 |", "5,0,-7 /", "5\t0 -7 /", "5 0 -7\t/",
    "5 0 -7 /\n", "\n5 0 -7 /", "5 0\n-7 /", "5 0 -7 /\t", "5 0 -7\n/",
    # one hand and six
    "5 /", "5 / 0@1>", "1 2 3 4 5 6 /",
    # numbers that are none
    "05 0 -7 /", "5 -0 -7 /", "5 00 -7 /", "5 +0 -7 /", "5 - -7 /", "5 0_0 -7 /", "a 0 -7 /", "5 0.0 -7 /",
    "1" * 61 + " 0 -7 /", "5 -" + "1" * 61 + " /",
    # blanks about falls
    "5 0 -7 /1@2>02", "5 0 -7/ 1@2>02", "5 0 -7 /  1@2>02", "5 0 -7 / 1@2>02 ", "5 0 -7 / 1 @2>02", "5 0 -7 / 1@ 2>02",
    "5 0 -7 / 1@2 >02", "5 0 -7 / 1@2> 02", "5 0 -7 / 1@2>0 2", "5 0 -7 / 0@1>1  1@2>02", "5 0 -7 / 0@1>11@2>02",
    "5 0 -7 1@2>02 /", "5 0 -7 1@2>02", "1@2>02", "/ 1@2>02",
    # falls turned about, a hand twice
    "5 0 -7 / 1@2>02 0@1>1", "5 0 -7 / 2@1> 1@2>02", "5 0 -7 / 1@2>02 1@2>02", "5 0 -7 / 1@1> 1@2>02",
    # figures not rising, or twice
    "5 0 -7 / 1@2>20", "5 0 -7 / 1@2>00", "5 0 -7 / 1@2>022", "1 2 3 4 5 / 0@1>1243", "1 2 3 4 5 / 0@1>4321",
    # reaching itself, or a hand beyond
    "5 0 -7 / 1@2>1", "5 0 -7 / 1@2>012", "5 0 -7 / 1@2>03", "5 0 -7 / 1@2>9", "1 2 / 0@1>2", "1 2 3 4 5 / 0@1>5",
    # no hand of the run, no round
    "5 0 -7 / 3@2>02", "5 0 -7 / 9@2>02", "1 2 / 2@1>0", "1 2 3 4 5 / 5@1>0", "5 0 -7 / 1@0>02", "5 0 -7 / 1@6>02",
    "5 0 -7 / 1@9>02", "5 0 -7 / 1@10>02", "5 0 -7 / 10@2>02", "5 0 -7 / 01@2>02", "5 0 -7 / 1@02>02", "5 0 -7 / -1@2>02",
    "5 0 -7 / 1@-2>02", "5 0 -7 / 1@2>-02", "5 0 -7 / +1@2>02",
    # signs left out, turned about, or others
    "5 0 -7 / @2>02", "5 0 -7 / 1@>02", "5 0 -7 / 12>02", "5 0 -7 / 1@202", "5 0 -7 / 1>2@02", "5 0 -7 / 1@2<02",
    "5 0 -7 / 1@2", "5 0 -7 / 1@", "5 0 -7 / 1", "5 0 -7 / @", "5 0 -7 / >", "5 0 -7 / @>", "5 0 -7 / 1@@2>02",
    "5 0 -7 / 1@2>>02", "5 0 -7 / 1@2>0,2", "5 0 -7 / 1@2>a", "5 0 -7 / a@2>02", "5 0 -7 / 1@a>02", "5 0 -7 / 1@2>0@2",
    "5 0 -7 / (1, 2, 5)", "((5, 0, -7), ())",
]


def is_number_by_words(text):
    return re.fullmatch(NUMBER, text) is not None


def is_fall_by_words(word, many):
    if not re.fullmatch("[0-4]@[1-5]>[0-4]*", word):
        return False
    reached = word[4:]
    if list(reached) != sorted(set(reached)) or word[0] in reached:
        return False
    return all(int(figure) < many for figure in word[0] + reached)


def is_run_by_words(text):
    there = re.fullmatch(f"({NUMBER}(?: {NUMBER}){{1,4}}) /((?: [^ ]+)*)", text)
    if not there:
        return False
    many = len(there.group(1).split(" "))
    falls = there.group(there.lastindex).split(" ")[1:]
    hands = [word[0] for word in falls]
    return all(is_fall_by_words(word, many) for word in falls) and hands == sorted(set(hands))


def altered(text):
    """Texts with one sign taken out, put in, put in another's place, and with two neighbours turned about."""
    told = set()
    for place in range(len(text) + 1):
        told.add(text[:place] + text[place + 1:])
        told.add(text[:place] + text[place:place + 2][::-1] + text[place + 2:])
        for sign in SIGNS:
            told.add(text[:place] + sign + text[place:])
            told.add(text[:place] + sign + text[place + 1:])
    return told


class NumberTest(unittest.TestCase):
    def test_numbers(self):
        for text, number in NUMBERS:
            told = read_number(text)
            self.assertEqual(told, number)
            self.assertIs(type(told), int)

    def test_all_small_numbers(self):
        for number in range(-1100, 1101):
            self.assertEqual(read_number(str(number)), number)

    def test_every_count_of_figures(self):
        for many in range(1, 61):
            for sign in ("", "-"):
                self.assertEqual(read_number(sign + "7" * many), int(sign + "7" * many))
        for many in range(61, 70):
            self.assertRaises(NoText, read_number, "7" * many)
            self.assertRaises(NoText, read_number, "-" + "7" * many)

    def test_texts_that_write_none(self):
        for text in NO_NUMBERS:
            with self.subTest(text):
                with self.assertRaises(NoText) as taken:
                    read_number(text)
                self.assertIs(type(taken.exception), NoText)

    def test_one_and_two_signs_by_the_words(self):
        for text in SIGNS + [one + two for one in SIGNS for two in SIGNS]:
            if is_number_by_words(text):
                self.assertEqual(read_number(text), int(text))
            else:
                self.assertRaises(NoText, read_number, text)

    def test_altered_numbers_by_the_words(self):
        for text in ["0", "-1", "120", "-4005", SIXTY]:
            for other in altered(text):
                if is_number_by_words(other):
                    self.assertEqual(read_number(other), int(other))
                else:
                    self.assertRaises(NoText, read_number, other)


class RunTest(unittest.TestCase):
    def test_written(self):
        for run, text in RUNS:
            self.assertEqual(show_run(run), text)

    def test_read(self):
        for run, text in RUNS:
            self.assertEqual(read_run(text), run)

    def test_the_kinds(self):
        run = read_run("5 0 -7 / 1@2>02")
        self.assertEqual((type(run), type(run[0]), type(run[1]), type(run[1][0])), (tuple, tuple, tuple, tuple))
        self.assertEqual({type(thing) for thing in run[0] + run[1][0]}, {int})
        self.assertIs(type(show_run(run)), str)

    def test_texts_that_write_none(self):
        for text in NO_RUNS:
            with self.subTest(text):
                self.assertFalse(is_run_by_words(text))
                with self.assertRaises(NoText) as taken:
                    read_run(text)
                self.assertIs(type(taken.exception), NoText)

    def test_what_is_written_is_read_back(self):
        runs = many_runs() + [run for run, bound in kept()]
        runs += [((1, 2, 3), falls) for falls in all_falls(3, 1, 3)]
        runs += [((4, 3, 2, 1), falls) for falls in all_falls(4, 1, 4)[::7]]
        runs += [((7, -7, 0, 10 ** 59, 3), falls) for falls in all_falls(5, 5, 1)]
        runs += [(tuple(range(5)), falls) for falls in all_falls(5, 1, 5)[::1009]]
        there = {(len(run[0]), len(run[1])) for run in runs}
        self.assertTrue({(many, fallen) for many in range(2, 6) for fallen in range(many + 1)} <= there, there)
        for run in runs:
            text = show_run(run)
            self.assertTrue(is_run_by_words(text), text)
            self.assertEqual(read_run(text), run)

    def test_no_two_runs_are_written_alike(self):
        runs = [((1, 2, 3), falls) for falls in all_falls(3, 2, 3)]
        self.assertEqual(len({show_run(run) for run in runs}), len(runs))

    def test_altered_texts_by_the_words(self):
        fit = 0
        for run, text in RUNS[:8]:
            for other in altered(text):
                if is_run_by_words(other):
                    self.assertEqual(show_run(read_run(other)), other)
                    fit += 1
                else:
                    self.assertRaises(NoText, read_run, other)
        self.assertGreater(fit, 100)

    def test_parts_put_together_by_the_words(self):
        parts = ["1", "-2", "0", "/", "0@1>", "1@2>0", "2@1>01", "0@1>1", "1@0>", "3@1>0", ""]
        texts = [""]
        for many in range(5):
            texts = [text + " " + part for text in texts for part in parts]
            for text in texts[::1 if many < 4 else 7]:
                if is_run_by_words(text[1:]):
                    self.assertEqual(show_run(read_run(text[1:])), text[1:])
                else:
                    self.assertRaises(NoText, read_run, text[1:])


if __name__ == "__main__":
    unittest.main()
