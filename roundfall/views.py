"""Views: all that a hand can know behind so many rounds, as nested tuples."""

from roundfall.masks import mask_of
from roundfall.runs import comes, many_hands, who_is_up


def view_behind(run, views, hand, at):
    parts = [views[by] if by == hand or comes(run, by, hand, at) else None for by in range(len(views))]
    return (hand, tuple(parts))


def views_behind(run, views, at):
    up = who_is_up(run, at)
    return [view_behind(run, views, hand, at) if hand in up else None for hand in range(len(views))]


def views_of(run, rounds):
    views = [(hand, run[0][hand]) for hand in range(many_hands(run))]
    for at in range(1, rounds + 1):
        views = views_behind(run, views, at)
    return views


def own_part(view):
    return view[1][view[0]]


def rounds_of(view):
    rounds = 0
    while isinstance(view[1], tuple):
        view = own_part(view)
        rounds = rounds + 1
    return rounds


def own_past(view, rounds):
    for step in range(rounds_of(view) - rounds):
        view = own_part(view)
    return view


def parts_of(views):
    # The same view stands in many places: kept once, the layers stay short.
    parts = {}
    for view in views:
        for part in view[1]:
            if part is not None:
                parts[part] = True
    return list(parts)


# The views that a view contains; in place k those behind k rounds.
def layers_of(view):
    layers = [[view]]
    for step in range(rounds_of(view)):
        layers.append(parts_of(layers[-1]))
    return list(reversed(layers))


def known(view):
    return sorted(layers_of(view)[0])


def least_known(view):
    return min([beginning[1] for beginning in known(view)])


def heard_of(view):
    parts = view[1]
    return mask_of([hand for hand in range(len(parts)) if parts[hand] is not None])


def missing_in(view):
    parts = view[1]
    return mask_of([hand for hand in range(len(parts)) if parts[hand] is None])


def is_clean(view):
    rounds = rounds_of(view)
    if rounds == 0:
        return False
    if rounds == 1:
        return missing_in(view) == 0
    return heard_of(view) == heard_of(own_part(view))


def lacking(view, rounds):
    mask = 0
    # A view behind 0 rounds has no places that could be empty.
    for layer in layers_of(view)[1:rounds + 1]:
        for contained in layer:
            mask = mask | missing_in(contained)
    return mask
