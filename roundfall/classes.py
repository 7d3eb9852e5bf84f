"""Classes: which runs of a list are joined by paths within it."""

from roundfall.views import views_of


# In `lesser` each place names a lesser one of its class, and the first one of the class names itself.
def first_of(lesser, place):
    while lesser[place] != place:
        # Shortened as it is gone, or long classes would be walked again and again.
        lesser[place] = lesser[lesser[place]]
        place = lesser[place]
    return place


def unite(lesser, one, two):
    first = first_of(lesser, one)
    other = first_of(lesser, two)
    lesser[max(first, other)] = min(first, other)


def joined(runs, rounds):
    lesser = list(range(len(runs)))
    seen = {}
    for place in range(len(runs)):
        for view in views_of(runs[place], rounds):
            # A hand that is gone has no view by which two runs could be alike.
            if view is not None:
                unite(lesser, seen.setdefault(view, place), place)
    return lesser


def classes(runs, rounds):
    lesser = joined(runs, rounds)
    told = {}
    for place in range(len(runs)):
        told.setdefault(first_of(lesser, place), []).append(place)
    return list(told.values())
