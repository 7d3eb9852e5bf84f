"""Whole numbers, and sets of hands as whole numbers."""


def is_whole(thing):
    return isinstance(thing, int) and not isinstance(thing, bool)


def bit_of(hand):
    bit = 1
    for step in range(hand):
        bit = bit * 2
    return bit


def has_hand(mask, hand):
    return (mask & bit_of(hand)) != 0


def mask_of(hands):
    mask = 0
    for hand in hands:
        # Not a sum: a hand may be in the list twice.
        mask = mask | bit_of(hand)
    return mask


def hands_in(mask):
    return [hand for hand in range(mask.bit_length()) if has_hand(mask, hand)]
