"""Breaking a rule that has chosen in an open run: the run in which it fails, found on a chain."""

from roundfall.chains import chain_of
from roundfall.errors import Closed
from roundfall.plays import choice_by
from roundfall.runs import many_hands, who_is_up
from roundfall.views import views_of
from roundfall.waste import is_open


def number_by(rule, view):
    choice = choice_by(rule, view)
    return None if choice is None else choice[1]


def told_by(rule, run, rounds):
    views = views_of(run, rounds)
    return [(hand, number_by(rule, views[hand])) for hand in who_is_up(run, rounds)]


def all_told(told, number):
    return all([pair[1] == number for pair in told])


def torn_in(run, told):
    unlike = [pair[0] for pair in told if pair[1] != told[0][1]]
    return ("torn", run, told[0][0], unlike[0])


def strangers(told, number):
    return [pair[0] for pair in told if pair[1] is not None and pair[1] != number]


# All in the first run have been told the number, and in the last one not all. Where that turns, two
# neighbours are alike to somebody: that hand has been told the number in both, and another one not.
def torn_on(rule, chain, number, rounds):
    low = 0
    high = len(chain) - 1
    while high - low > 1:
        middle = (low + high) // 2
        if all_told(told_by(rule, chain[middle], rounds), number):
            low = middle
        else:
            high = middle
    return torn_in(chain[high], told_by(rule, chain[high], rounds))


def broken_from(rule, run, bound, rounds, number):
    other = 1 if number == 0 else 0
    chain = chain_of(run, bound, rounds, tuple([other for hand in range(many_hands(run))]))
    hands = strangers(told_by(rule, chain[-1], rounds), other)
    if len(hands) > 0:
        return ("strange", chain[-1], hands[0])
    return torn_on(rule, chain, number, rounds)


def broken(rule, run, bound, rounds):
    if not is_open(run, bound, rounds):
        raise Closed("the run is closed for this bound behind so many rounds")
    told = told_by(rule, run, rounds)
    number = told[0][1]
    if not all_told(told, number):
        return torn_in(run, told)
    # None is no number: nobody that is up has been told one.
    if number is None:
        return None
    return broken_from(rule, run, bound, rounds, number)
