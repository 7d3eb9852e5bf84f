import unittest

from helper import held, kept, many_runs
from roundfall.alike import alike_to
from roundfall.breaking import broken
from roundfall.chains import chain_of
from roundfall.desk import Desk, show_broken
from roundfall.errors import Closed, NoBound, NoName, NoRow, NoText, RoundError
from roundfall.plays import choices
from roundfall.rules import plain, soon, sure, together
from roundfall.texts import show_run
from roundfall.views import known, views_of
from roundfall.waste import closing_round, is_open, waste_of

RULES = {"plain": plain, "soon": soon, "sure": sure, "together": together}
NAMES = ["a", "z", "run", "show", "abcdefgh", "zzzzzzzz", "plain", "none"]
NO_NAMES = [
    "", "abcdefghi", "A", "aB", "a1", "1", "a_b", "a-b", "a.b", "a/b", "a\n", "\na", "a\t", "\t", "a@", "`", "{", "-", "~",
    "abcdefgh1", "abcdefghij" * 10]
NO_RULES = ["", "Plain", "PLAIN", "plai", "plainn", "soone", "sur", "both", "none", "plain\n", "0", "-", "p", "togethe"]
NO_FIGURES = ["", "-1", "+1", "01", "00", "10", "1.", "a", "x", "-", "1\n", "\t1", "_", "1_", "5", "9", "/", ":", "1,2"]
NO_NUMBERS = ["", "-", "-0", "00", "07", "+1", "1_0", "1\n", "\t1", "a", "1" * 61, "-" + "1" * 61, "1.0", "0x1", "--1"]
# Each with the rows of its name behind `run x TEXT`, and the answers.
FALLS = "5 0 -7 / 1@1>0"
ANSWERS = [
    ("show x", "5 0 -7 / 1@1>0"),
    ("waste x", "0"),
    ("close x 1", "2"),
    ("know x 0 0", "0:5"),
    ("know x 1 0", "1:0"),
    ("know x 0 1", "0:5 1:0 2:-7"),
    ("know x 1 1", "gone"),
    ("know x 2 1", "0:5 2:-7"),
    ("know x 2 2", "0:5 1:0 2:-7"),
    ("know x 2 4", "0:5 1:0 2:-7"),
    ("know x 3 0", "gone"),
    ("know x 4 4", "gone"),
    ("choose x plain 1 1", "- - -"),
    ("choose x plain 1 2", "2:-7 - 2:-7"),
    ("choose x plain 0 4", "1:-7 - 1:-7"),
    ("choose x plain 3 4", "4:-7 - 4:-7"),
    ("choose x soon 1 1", "1:-7 - -"),
    ("choose x soon 1 4", "1:-7 - 2:-7"),
    ("choose x soon 3 2", "1:-7 - 2:-7"),
    ("choose x sure 3 4", "2:-7 - 3:-7"),
    ("choose x together 1 4", "2:-7 - 2:-7"),
    ("choose x together 3 3", "- - -"),
    ("alike x x 0", "0 1 2"),
    ("alike x x 1", "0 2"),
    ("break x plain 1 0", "none"),
    ("break x plain 1 1", "none"),
    ("break x together 1 1", "none"),
    ("break x soon 1 1", "torn 0 2 5 0 -7 / 1@1>0"),
]


def desk_with(rows):
    desk = Desk()
    for row in rows:
        if desk.say(row) != "ok":
            raise AssertionError(row)
    return desk


def texts_of(pairs):
    return [f"{one}:{two}" for one, two in pairs]


def broken_text(told):
    if told is None:
        return "none"
    if told[0] == "torn":
        return f"torn {told[2]} {told[3]} {show_run(told[1])}"
    return f"strange {told[2]} {show_run(told[1])}"


class AnswerTest(unittest.TestCase):
    def test_worked_by_hand(self):
        desk = desk_with(["run x " + FALLS])
        for row, answer in ANSWERS:
            with self.subTest(row):
                self.assertEqual(desk.say(row), answer)
                self.assertIs(type(desk.say(row)), str)

    def test_waste_and_closing_round(self):
        desk = desk_with(["run two 4 3 2 1 / 0@1> 1@1>", "run three 5 4 3 2 1 / 0@1> 1@1> 2@1>", "run none 1 2 /"])
        self.assertEqual([desk.say("waste " + name) for name in ("two", "three", "none")], ["1", "2", "0"])
        self.assertEqual(desk.say("close two 2"), "2")
        self.assertEqual(desk.say("close three 3"), "2")
        self.assertEqual(desk.say("close none 0"), "1")

    def test_alike(self):
        desk = desk_with(["run x 1 2 3 4 / 0@2>1", "run y 1 2 3 4 / 0@2>12", "run z 1 2 3 9 /", "run w 1 2 3 /"])
        self.assertEqual([desk.say(f"alike x y {rounds}") for rounds in range(5)],
                         ["0 1 2 3", "0 1 2 3", "1 3", "none", "none"])
        self.assertEqual([desk.say(f"alike z y {rounds}") for rounds in range(2)], ["0 1 2", "none"])

    def test_alike_with_unlike_many_hands(self):
        desk = desk_with(["run x 1 2 3 4 /", "run w 1 2 3 /", "run v 1 2 /", "run u 1 2 3 4 5 /"])
        for one in "xwvu":
            for two in "xwvu":
                if one != two:
                    for rounds in range(5):
                        self.assertEqual(desk.say(f"alike {one} {two} {rounds}"), "none")

    def test_alike_where_all_are_gone(self):
        desk = desk_with(["run x 1 2 / 0@1> 1@2>"])
        self.assertEqual([desk.say(f"alike x x {rounds}") for rounds in range(4)], ["0 1", "1", "none", "none"])

    def test_know_of_a_hand_that_is_no_hand_of_the_run(self):
        desk = desk_with(["run x 1 2 /"])
        for rounds in range(5):
            for hand in (2, 3, 4):
                self.assertEqual(desk.say(f"know x {hand} {rounds}"), "gone")

    def test_chain(self):
        desk = desk_with(["run x 4 3 2 1 / 0@1>2 3@2>", "run y 7 7 7 7 /", "run v 1 2 /"])
        for number in (0, 7, -3, 10 ** 60 - 1, 1 - 10 ** 60):
            for rounds in range(3):
                told = chain_of(((4, 3, 2, 1), ((0, 1, 4), (3, 2, 0))), 2, rounds, (number,) * 4)
                self.assertEqual(desk.say(f"chain x 2 {rounds} {number}"), str(len(told)))
        self.assertEqual(desk.say("chain y 2 2 7"), str(len(chain_of(((7, 7, 7, 7), ()), 2, 2, (7, 7, 7, 7)))))
        self.assertEqual(desk.say("chain v 0 0 5"), str(len(chain_of(((1, 2), ()), 0, 0, (5, 5)))))

    def test_break(self):
        desk = desk_with(["run x 5 4 3 2 1 /", "run y 4 3 2 1 / 0@1>2 3@2>"])
        seen = set()
        for word, rule in RULES.items():
            for bound in range(4):
                for rounds in range(bound + 1):
                    told = broken_text(broken(held(rule, bound), ((5, 4, 3, 2, 1), ()), bound, rounds))
                    self.assertEqual(desk.say(f"break x {word} {bound} {rounds}"), told)
                    seen.add(told.split(" ")[0])
            for rounds in range(3):
                told = broken_text(broken(held(rule, 2), ((4, 3, 2, 1), ((0, 1, 4), (3, 2, 0))), 2, rounds))
                self.assertEqual(desk.say(f"break y {word} 2 {rounds}"), told)
        self.assertEqual(seen, {"none", "torn"})

    def test_strange(self):
        # No rule that a row can name is ever strange.
        run = ((4, 3, 2, 1), ())
        told = show_broken(lambda view: 9, run, 2, 1)
        self.assertEqual(told, broken_text(broken(lambda view: 9, run, 2, 1)))
        self.assertRegex(told, "^strange [0-3] (-?[0-9]+)( \\1){3} /$")

    def test_choose_for_a_bound_that_the_run_does_not_keep(self):
        desk = desk_with(["run x 1 2 / 0@1> 1@2>"])
        self.assertEqual(desk.say("choose x plain 0 4"), "- 1:2")
        self.assertEqual(desk.say("choose x plain 3 4"), "- -")
        self.assertEqual(desk.say("choose x soon 3 4"), "- -")

    def test_many_runs_by_the_modules(self):
        desk = Desk()
        for place, run in enumerate(many_runs()[::11]):
            bound, rounds, word = place % 4, place // 4 % 5, list(RULES)[place // 20 % 4]
            self.assertEqual(desk.say("run x " + show_run(run)), "ok")
            self.assertEqual(desk.say("show x"), show_run(run))
            self.assertEqual(desk.say("waste x"), str(waste_of(run)))
            for hand, view in enumerate(views_of(run, rounds)):
                right = "gone" if view is None else " ".join(texts_of(known(view)))
                self.assertEqual(desk.say(f"know x {hand} {rounds}"), right)
            told = choices(held(RULES[word], bound), run, rounds)
            right = " ".join("-" if choice is None else texts_of([choice])[0] for choice in told)
            self.assertEqual(desk.say(f"choose x {word} {bound} {rounds}"), right)
            right = " ".join(str(hand) for hand in alike_to(run, run, rounds)) or "none"
            self.assertEqual(desk.say(f"alike x x {rounds}"), right)

    def test_many_runs_that_keep_a_bound_by_the_modules(self):
        desk = Desk()
        for place, (run, bound) in enumerate(kept()[::19]):
            desk.say("run x " + show_run(run))
            self.assertEqual(desk.say(f"close x {bound}"), str(closing_round(run, bound)))
            for rounds in range(min(3, closing_round(run, bound))):
                right = len(chain_of(run, bound, rounds, (3,) * len(run[0])))
                self.assertEqual(desk.say(f"chain x {bound} {rounds} 3"), str(right))
                for word, rule in RULES.items():
                    right = broken_text(broken(held(rule, bound), run, bound, rounds))
                    self.assertEqual(desk.say(f"break x {word} {bound} {rounds}"), right)


class KeepingTest(unittest.TestCase):
    def test_names_of_one_to_eight_letters(self):
        desk = Desk()
        for place, name in enumerate(NAMES):
            self.assertEqual(desk.say(f"run {name} {place} 0 /"), "ok")
        for place, name in enumerate(NAMES):
            self.assertEqual(desk.say(f"show {name}"), f"{place} 0 /")

    def test_a_name_put_down_anew(self):
        desk = desk_with(["run x 1 2 /", "run y 3 4 /", "run x 5 6 7 / 0@1>"])
        self.assertEqual(desk.say("show x"), "5 6 7 / 0@1>")
        self.assertEqual(desk.say("show y"), "3 4 /")

    def test_two_names_may_stand_for_the_same_run(self):
        desk = desk_with(["run x 1 2 /", "run y 1 2 /", "run x 3 4 /"])
        self.assertEqual(desk.say("show y"), "1 2 /")

    def test_two_desks(self):
        one, two = desk_with(["run x 1 2 /"]), desk_with(["run y 3 4 /"])
        self.assertRaises(NoName, one.say, "show y")
        self.assertRaises(NoName, two.say, "show x")
        two.say("run x 5 6 /")
        self.assertEqual((one.say("show x"), two.say("show x")), ("1 2 /", "5 6 /"))
        self.assertRaises(NoName, Desk().say, "show x")


class RefusalTest(unittest.TestCase):
    def setUp(self):
        self.desk = desk_with(["run x 5 0 -7 / 1@1>0", "run y 5 4 3 2 1 / 0@1> 1@1>"])

    def refused(self, error, row):
        with self.subTest(row):
            with self.assertRaises(error) as taken:
                self.desk.say(row)
            self.assertIs(type(taken.exception), error)
            self.assertIsInstance(taken.exception, RoundError)
            self.assertEqual(self.desk.say("show x"), "5 0 -7 / 1@1>0")
            self.assertEqual(self.desk.say("show y"), "5 4 3 2 1 / 0@1> 1@1>")

    def test_rows_that_are_none(self):
        for row in ["", " ", "x", "ru", "runx", "Run x 1 2 /", "RUN x 1 2 /", "shows x", "sho x", "wastes x", "help", "\n",
                    "run", "show", "waste", "close", "know", "choose", "alike", "chain", "break", "show\tx", "showx",
                    "run\tx 1 2 /", "run\nx 1 2 /", "x show", "name x", "text x", "-", "1 2 /", "5 0 -7 / 1@1>0",
                    "found x 1", "classes x 1", "heal x 1 1", "plain x 1 1", "NAME", "run NAME TEXT", "show NAME"]:
            self.refused(NoRow, row)

    def test_a_word_or_blank_too_many_or_too_few(self):
        whole = ["show x", "waste x", "close x 1", "know x 0 1", "choose x plain 1 1", "alike x y 1", "chain x 1 1 0",
                 "break x plain 1 1"]
        for row in whole:
            self.assertIsInstance(self.desk.say(row), str)
            self.refused(NoRow, row + " ")
            self.refused(NoRow, " " + row)
            self.refused(NoRow, row + "\n")
            self.refused(NoRow, row + "\t")
            self.refused(NoRow, row + " 1")
            self.refused(NoRow, row + " x")
            words = row.split(" ")
            for place in range(len(words)):
                self.refused(NoRow, " ".join(words[:place] + words[place + 1:]))
                self.refused(NoRow, " ".join(words[:place] + [""] + words[place:]))
                self.refused(NoRow, " ".join(words[:place] + [""] + words[place + 1:]))
                self.refused(NoRow, " ".join(words[:place] + words[place:place + 1] + words[place:]))
            for place in range(1, len(words)):
                self.refused(NoRow, " ".join(words[:place]) + "\t" + " ".join(words[place:]))
                self.refused(NoRow, " ".join(words[:place]) + " ".join(words[place:]))

    def test_run_with_a_blank_too_few_or_too_many(self):
        for row in ["run x", "run ", "run  ", "run  x 1 2 /", " run x 1 2 /", "run  1 2 /", "runx 1 2 /", "run 1 2 /",
                    "run x\t1 2 /", "run x\n1 2 /"]:
            self.refused(NoRow, row)
        for row in ["run x ", "run x  ", "run x  1 2 /", "run x 1 2 / ", "run x 1 2", "run x 1  2 /", "run x y 1 2 /"]:
            self.refused(NoText, row)

    def test_names_that_are_none(self):
        for name in NO_NAMES:
            for row in [f"run {name} 1 2 /", f"show {name}", f"waste {name}", f"close {name} 1", f"know {name} 0 1",
                        f"choose {name} plain 1 1", f"alike {name} x 1", f"alike x {name} 1", f"chain {name} 1 1 0",
                        f"break {name} plain 1 1"]:
                self.refused(NoRow, row)

    def test_rules_that_are_none(self):
        for rule in NO_RULES:
            self.refused(NoRow, f"choose x {rule} 1 1")
            self.refused(NoRow, f"break x {rule} 1 1")

    def test_figures_that_are_none_or_beyond(self):
        for figure in NO_FIGURES:
            for row in ["close x {}", "know x {} 1", "know x 0 {}", "choose x plain {} 1", "choose x plain 1 {}",
                        "alike x y {}", "chain x {} 1 0", "chain x 1 {} 0", "break x plain {} 1", "break x plain 1 {}"]:
                self.refused(NoRow, row.replace("{}", figure))
        for row in ["close x 4", "choose x plain 4 1", "chain x 4 1 0", "break x plain 4 1"]:
            self.refused(NoRow, row)

    def test_the_greatest_figures_are_in(self):
        for row in ["know x 4 4", "know x 0 4", "choose x plain 3 4", "alike x y 4", "alike x x 4"]:
            self.assertIsInstance(self.desk.say(row), str)
        self.assertEqual(self.desk.say("close y 3"), "3")
        self.refused(NoBound, "close x 3")
        self.refused(Closed, "chain y 3 4 0")
        self.refused(Closed, "break y plain 3 4")

    def test_an_n_that_is_none(self):
        for number in NO_NUMBERS:
            self.refused(NoRow, f"chain x 1 1 {number}")

    def test_texts_that_write_no_run(self):
        for text in ["", "/", "1 /", "1 2", "1 2 / 0@1>0", "1 2 / 0@6>1", "1 2 / 1@1> 0@1>", "01 2 /", "1 2 /\n", "x", "x y",
                     "5 0 -7 / 1@2>20", "1 2 3 4 5 6 /"]:
            self.refused(NoText, "run x " + text)
            self.refused(NoText, "run z " + text)
            self.refused(NoName, "show z")

    def test_a_name_by_which_no_run_stands(self):
        for row in ["show z", "waste z", "close z 1", "know z 0 1", "choose z plain 1 1", "alike z x 1", "alike x z 1",
                    "alike z z 1", "chain z 1 1 0", "break z plain 1 1", "show xx", "show run"]:
            self.refused(NoName, row)
            self.assertRaises(NoName, Desk().say, row)

    def test_what_closing_round_chain_of_and_broken_refuse(self):
        for row in ["close x 0", "close x 2", "close y 1", "close y 0", "chain x 0 0 0", "chain x 2 0 0", "chain y 1 0 0",
                    "break x plain 0 0", "break x soon 2 0", "break y sure 1 0", "break y together 0 0"]:
            self.refused(NoBound, row)
        for row in ["chain x 1 2 0", "chain x 1 4 0", "chain y 2 2 0", "chain y 3 3 0", "break x plain 1 2",
                    "break y soon 2 2", "break y sure 3 3", "break y together 3 4"]:
            self.refused(Closed, row)

    def test_many_runs_are_closed_as_is_open_tells(self):
        desk = Desk()
        for run, bound in kept()[::41]:
            desk.say("run x " + show_run(run))
            for rounds in range(5):
                if not is_open(run, bound, rounds):
                    self.assertRaises(Closed, desk.say, f"chain x {bound} {rounds} 0")
                    self.assertRaises(Closed, desk.say, f"break x plain {bound} {rounds}")

    def test_two_at_once(self):
        # a row that is none ahead of a text that writes no run, of a name that stands for none, and of all others
        for row in ["run X 1 2", "run abcdefghi /", "run  /", "run 1 1 1", "show z ", "close z 4", "know z 5 0",
                    "choose z plan 1 1", "alike z z 5", "alike z Z 1", "chain z 1 1 -0", "break z plain 1 5",
                    "chain x 0 0 00", "chain x 1 2 07", "break x plan 0 0", "break x plan 1 2", "close x 4",
                    "break y plain 1 5", "chain z 0 4 +1"]:
            self.refused(NoRow, row)
        # a name that stands for none ahead of a bound that no run keeps and of a closed one
        for row in ["close z 3", "chain z 3 4 0", "break z plain 0 4"]:
            self.refused(NoName, row)
        # a bound that is not kept ahead of a closed run
        for row in ["chain x 0 4 0", "chain y 1 4 0", "break x plain 0 4", "break y together 1 4"]:
            self.refused(NoBound, row)

    def test_what_is_refused_changes_nothing(self):
        desk = Desk()
        for row in ["run x 1 2", "run x ", "run X 1 2 /", "show x", "chain x 1 1 0"]:
            self.assertRaises(RoundError, desk.say, row)
            self.assertRaises(NoName, desk.say, "show x")


if __name__ == "__main__":
    unittest.main()
