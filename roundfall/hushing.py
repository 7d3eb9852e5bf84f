"""Hushing a hand: a path to its falling from a round on, on which somebody never sees the next step."""

from roundfall.masks import bit_of, mask_of
from roundfall.runs import fall_of, who_is_up, with_fall


def with_reach_turned(run, hand, to):
    fall = fall_of(run, hand)
    return with_fall(run, hand, fall[1], fall[2] ^ bit_of(to))


# From the run to another one that differs in nothing but what the hand knows ahead of the round `at`:
# while it is hushed from there on, nobody else can hear of that.
def changed_while_hushed(run, other, hand, at, rounds):
    return hushed(run, hand, at, rounds) + list(reversed(hushed(other, hand, at, rounds)))


def hushed(run, hand, at, rounds):
    # A fall behind the last round is seen by nobody.
    if at > rounds:
        return [run]
    others = [other for other in who_is_up(run, at) if other != hand]
    path = hushed(run, hand, at + 1, rounds)
    path.append(with_fall(run, hand, at, mask_of(others)))
    for other in others:
        last = path[-1]
        fewer = with_reach_turned(last, hand, other)
        # The last run is there already.
        path.extend(changed_while_hushed(last, fewer, other, at + 1, rounds)[1:])
    return path
