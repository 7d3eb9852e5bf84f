"""Who is found out, and how much sooner than the bound and 1 all can choose at once for it."""

from roundfall.errors import NoBound
from roundfall.masks import hands_in, has_hand, mask_of
from roundfall.runs import LAST_ROUND, keeps, who_is_up


def all_heard(fall, up):
    return all([has_hand(fall[2], hand) for hand in up])


def is_found_out(fall, up, rounds):
    return fall[1] < rounds or (fall[1] == rounds and not all_heard(fall, up))


def found_out(run, rounds):
    up = who_is_up(run, rounds)
    # Where nobody is up there is no view in which a hand could lack.
    if len(up) == 0:
        return 0
    return mask_of([fall[0] for fall in run[1] if is_found_out(fall, up, rounds)])


def waste_of(run):
    return max([0] + [len(hands_in(found_out(run, at))) - at for at in range(1, LAST_ROUND + 1)])


def closing_round(run, bound):
    if not keeps(run, bound):
        raise NoBound("the run does not keep this bound")
    return bound + 1 - waste_of(run)


def is_open(run, bound, rounds):
    return rounds < closing_round(run, bound)
