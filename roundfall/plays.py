"""A rule at play: when a hand chooses by it, and which number."""

from roundfall.runs import fall_of, many_hands
from roundfall.views import own_past, rounds_of, views_of


def choice_by(rule, view):
    for rounds in range(rounds_of(view) + 1):
        number = rule(own_past(view, rounds))
        # 0 is a number as good as any other.
        if number is not None:
            return (rounds, number)
    return None


def last_rounds(run, hand, rounds):
    fall = fall_of(run, hand)
    return rounds if fall is None else min(rounds, fall[1] - 1)


def last_view(run, hand, rounds):
    return views_of(run, last_rounds(run, hand, rounds))[hand]


def choices(rule, run, rounds):
    return [choice_by(rule, last_view(run, hand, rounds)) for hand in range(many_hands(run))]
