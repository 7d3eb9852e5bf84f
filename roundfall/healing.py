"""Healing a run: a path to the same without falls, on which no run has more falls than the bound."""

from roundfall.hushing import changed_while_hushed, hushed, with_reach_turned
from roundfall.masks import has_hand
from roundfall.runs import fall_of, who_is_up, with_fall, without_fall
from roundfall.waste import all_heard


def without_late_falls(run, rounds):
    return (run[0], tuple([fall for fall in run[1] if fall[1] <= rounds]))


def heard_falls(run, at):
    up = who_is_up(run, at)
    return [fall for fall in run[1] if fall[1] == at and all_heard(fall, up)]


def fallen_next(run, hand, at, rounds):
    return with_fall(run, hand, at + 1, 0) if at < rounds else without_fall(run, hand)


def with_heard_next(run, at, rounds):
    # All at once: when one of them is up again behind the round, another one may not have reached it.
    later = run
    for fall in heard_falls(run, at):
        later = fallen_next(later, fall[0], at, rounds)
    return later


def risen(run, hand, at, rounds):
    return list(reversed(hushed(without_fall(run, hand), hand, at, rounds)))


def heard_healed(run, at, rounds):
    hands = [fall[0] for fall in heard_falls(run, at)]
    path = [run]
    if len(hands) > 0:
        path.append(with_heard_next(run, at, rounds))
    for hand in hands:
        path.extend(risen(path[-1], hand, at + 1, rounds)[1:])
    return path


def made_heard(run, hand, at, rounds):
    path = [run]
    for to in who_is_up(run, at):
        last = path[-1]
        if not has_hand(fall_of(last, hand)[2], to):
            more = with_reach_turned(last, hand, to)
            path.extend(changed_while_hushed(last, more, to, at + 1, rounds)[1:])
    return path


def round_healed(run, at, rounds):
    path = heard_healed(run, at, rounds)
    hands = [fall[0] for fall in path[-1][1] if fall[1] == at]
    for hand in hands:
        path.extend(made_heard(path[-1], hand, at, rounds)[1:])
        path.extend(heard_healed(path[-1], at, rounds)[1:])
    return path


# No step asks for the bound: that the run is open for it is what leaves room for those who are hushed.
def healed(run, bound, rounds):
    path = [run]
    seen = without_late_falls(run, rounds)
    if seen != run:
        path.append(seen)
    for step in range(rounds):
        path.extend(round_healed(path[-1], rounds - step, rounds)[1:])
    return path
