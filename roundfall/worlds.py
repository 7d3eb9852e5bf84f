"""Worlds: all runs with some numbers, and with falls up to a bound and a round."""

from roundfall.masks import bit_of, has_hand


def all_numbers(numbers, hands):
    told = [()]
    for hand in range(hands):
        longer = []
        for begun in told:
            longer.extend([begun + (number,) for number in numbers])
        told = longer
    return told


def falls_of_hand(hand, hands, rounds):
    reaches = [reached for reached in range(bit_of(hands)) if not has_hand(reached, hand)]
    told = []
    for at in range(1, rounds + 1):
        told.extend([(hand, at, reached) for reached in reaches])
    return told


def all_falls(hands, bound, rounds):
    told = [()]
    for hand in range(hands):
        own = falls_of_hand(hand, hands, rounds)
        longer = []
        for falls in told:
            if len(falls) < bound:
                longer.extend([falls + (fall,) for fall in own])
        told = told + longer
    return told


def worlds(numbers, hands, bound, rounds):
    every_fall = all_falls(hands, bound, rounds)
    told = []
    for begun in all_numbers(numbers, hands):
        told.extend([(begun, falls) for falls in every_fall])
    return sorted(told)
