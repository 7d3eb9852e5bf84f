"""A desk that keeps runs by names and answers rows with texts."""

from roundfall.alike import alike_to
from roundfall.breaking import broken
from roundfall.chains import chain_of
from roundfall.errors import NoName
from roundfall.plays import choices
from roundfall.rows import read_row
from roundfall.rules import plain, soon, sure, together
from roundfall.runs import many_hands, who_is_up
from roundfall.texts import read_run, show_run
from roundfall.views import known, views_of
from roundfall.waste import closing_round, waste_of


def number_by(word, view, bound):
    if word == "plain":
        return plain(view, bound)
    if word == "soon":
        return soon(view, bound)
    if word == "sure":
        return sure(view, bound)
    return together(view, bound)


def rule_of(asked):
    return lambda view: number_by(asked["rule"], view, asked["bound"])


def show_pair(pair):
    first = pair[0]
    second = pair[1]
    return f"{first}:{second}"


def know(run, hand, rounds):
    # One that is no hand of the run is not up either.
    if hand not in who_is_up(run, rounds):
        return "gone"
    return " ".join([show_pair(beginning) for beginning in known(views_of(run, rounds)[hand])])


def choose(rule, run, rounds):
    return " ".join(["-" if choice is None else show_pair(choice) for choice in choices(rule, run, rounds)])


def show_alike(run, other, rounds):
    hands = alike_to(run, other, rounds) if many_hands(run) == many_hands(other) else []
    return " ".join([str(hand) for hand in hands]) if len(hands) > 0 else "none"


def count_chain(run, bound, rounds, number):
    return str(len(chain_of(run, bound, rounds, tuple([number for hand in range(many_hands(run))]))))


def show_broken(rule, run, bound, rounds):
    told = broken(rule, run, bound, rounds)
    if told is None:
        return "none"
    return " ".join([told[0]] + [str(hand) for hand in told[2:]] + [show_run(told[1])])


def answer(word, run, asked):
    if word == "show":
        return show_run(run)
    if word == "waste":
        return str(waste_of(run))
    if word == "close":
        return str(closing_round(run, asked["bound"]))
    if word == "know":
        return know(run, asked["hand"], asked["rounds"])
    if word == "choose":
        return choose(rule_of(asked), run, asked["rounds"])
    if word == "chain":
        return count_chain(run, asked["bound"], asked["rounds"], asked["number"])
    return show_broken(rule_of(asked), run, asked["bound"], asked["rounds"])


class Desk:
    def __init__(self):
        self.runs = {}

    def say(self, row):
        read = read_row(row)
        word = read[0]
        asked = read[1]
        if word == "run":
            self.runs[asked["name"]] = read_run(asked["text"])
            return "ok"
        run = self.run_by(asked["name"])
        if word == "alike":
            return show_alike(run, self.run_by(asked["other"]), asked["rounds"])
        return answer(word, run, asked)

    def run_by(self, name):
        if name not in self.runs:
            raise NoName("no run stands by this name")
        return self.runs[name]
