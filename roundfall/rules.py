"""Four rules by which a hand chooses the least number that it knows, each at its own time."""

from roundfall.masks import hands_in
from roundfall.views import is_clean, lacking, least_known, own_past, rounds_of


def waste_seen(view):
    # Ahead of its last round alone: of that round a hand can't know yet what the others lack.
    return max([0] + [len(hands_in(lacking(view, by))) - by for by in range(1, rounds_of(view))])


def is_behind_bound(view, bound):
    return rounds_of(view) >= bound + 1


def was_clean(view):
    return any([is_clean(own_past(view, rounds)) for rounds in range(1, rounds_of(view))])


def least_where(tells, view):
    return least_known(view) if tells else None


def plain(view, bound):
    return least_where(is_behind_bound(view, bound), view)


def soon(view, bound):
    return least_where(is_behind_bound(view, bound) or is_clean(view), view)


def sure(view, bound):
    return least_where(is_behind_bound(view, bound) or was_clean(view), view)


def together(view, bound):
    return least_where(is_behind_bound(view, bound - waste_seen(view)), view)
