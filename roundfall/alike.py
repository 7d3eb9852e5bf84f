"""Two runs side by side: to whom they look the same."""

from roundfall.views import views_of


def alike_to(run, other, rounds):
    views = views_of(run, rounds)
    others = views_of(other, rounds)
    # Two hands that are both gone have None each, which is no view: the runs are not alike to them.
    return [hand for hand in range(len(views)) if views[hand] is not None and views[hand] == others[hand]]
