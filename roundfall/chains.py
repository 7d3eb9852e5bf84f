"""Chains: from a run, by steps that somebody does not see, to one without falls and with other numbers."""

from roundfall.errors import Closed, NoNumbers
from roundfall.healing import healed
from roundfall.hushing import changed_while_hushed
from roundfall.runs import are_numbers, many_hands, with_number
from roundfall.waste import is_open


def renumbered(run, numbers, rounds):
    path = [run]
    for hand in range(many_hands(run)):
        last = path[-1]
        if last[0][hand] != numbers[hand]:
            other = with_number(last, hand, numbers[hand])
            path.extend(changed_while_hushed(last, other, hand, 1, rounds)[1:])
    return path


def are_numbers_for(run, thing):
    return are_numbers(thing) and len(thing) == many_hands(run)


def chain_of(run, bound, rounds, numbers):
    # Asked first, since it refuses the bound, and that goes ahead of the numbers.
    still_open = is_open(run, bound, rounds)
    if not are_numbers_for(run, numbers):
        raise NoNumbers("no run of as many hands has these numbers")
    if not still_open:
        raise Closed("the run is closed for this bound behind so many rounds")
    path = healed(run, bound, rounds)
    return path + renumbered(path[-1], numbers, rounds)[1:]
