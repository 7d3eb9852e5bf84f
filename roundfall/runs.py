"""Runs: the numbers that the hands begin with, and who falls when, reaching whom."""

from roundfall.errors import NoRun
from roundfall.masks import bit_of, has_hand, is_whole

LEAST_HANDS = 2
MOST_HANDS = 5
LAST_ROUND = 5


def is_number(thing):
    return is_whole(thing) and -(10 ** 60) < thing < 10 ** 60


def are_numbers(thing):
    if not isinstance(thing, tuple) or not LEAST_HANDS <= len(thing) <= MOST_HANDS:
        return False
    return all([is_number(number) for number in thing])


def is_reach(mask, hand, many):
    return 0 <= mask < bit_of(many) and not has_hand(mask, hand)


def is_fall(thing, many):
    if not isinstance(thing, tuple) or len(thing) != 3:
        return False
    if not all([is_whole(part) for part in thing]):
        return False
    if not 0 <= thing[0] < many or not 1 <= thing[1] <= LAST_ROUND:
        return False
    return is_reach(thing[2], thing[0], many)


def are_falls(thing, many):
    if not isinstance(thing, tuple) or not all([is_fall(fall, many) for fall in thing]):
        return False
    hands = [fall[0] for fall in thing]
    return hands == sorted(set(hands))


def is_run(thing):
    if not isinstance(thing, tuple) or len(thing) != 2:
        return False
    return are_numbers(thing[0]) and are_falls(thing[1], len(thing[0]))


def make_run(numbers, falls):
    run = (numbers, falls)
    if not is_run(run):
        raise NoRun("these numbers and falls make no run")
    return run


def many_hands(run):
    return len(run[0])


def fall_of(run, hand):
    for fall in run[1]:
        if fall[0] == hand:
            return fall
    return None


def without_fall(run, hand):
    return (run[0], tuple([fall for fall in run[1] if fall[0] != hand]))


def with_fall(run, hand, at, reached):
    others = without_fall(run, hand)[1]
    return (run[0], tuple(sorted(others + ((hand, at, reached),))))


def with_number(run, hand, number):
    numbers = run[0]
    return (numbers[:hand] + (number,) + numbers[hand + 1:], run[1])


def is_up(run, hand, rounds):
    fall = fall_of(run, hand)
    return fall is None or fall[1] > rounds


def who_is_up(run, rounds):
    return [hand for hand in range(many_hands(run)) if is_up(run, hand, rounds)]


def comes(run, by, to, at):
    if by == to or not is_up(run, to, at):
        return False
    fall = fall_of(run, by)
    if fall is None or fall[1] > at:
        return True
    return fall[1] == at and has_hand(fall[2], to)


def keeps(run, bound):
    if not is_whole(bound):
        return False
    return 0 <= bound <= many_hands(run) - 2 and len(run[1]) <= bound
