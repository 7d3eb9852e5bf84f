"""What several test files share: things of all kinds, many runs, and views by the document's words."""

from roundfall.views import views_of


def nested(deep, listed):
    thing = 7
    for step in range(deep):
        thing = [thing] if listed else (thing,)
    return thing


# Things that are neither a whole number nor a run.
OTHER_THINGS = [
    True,
    False,
    None,
    "",
    "1",
    "ab",
    "5 0 -7 /",
    (),
    [],
    (1,),
    [1],
    (1, 2),
    [1, 2],
    (None, None),
    ("ab", "cd"),
    ((), ()),
    ((1,), ()),
    ((1, 2), None),
    ((1, 2), (), ()),
    ((1, 2), ((),)),
    ((1, 2), (0, 1, 2)),
    (True, False),
    (((1, 2), ()), ((1, 2), ())),
    nested(20, True),
    nested(20, False),
    tuple(range(1000)),
    list(range(1000)),
    "x" * 1000,
]


def falls_of_hand(hand, many, rounds):
    told = [None]
    for at in range(1, rounds + 1):
        for reached in range(2 ** many):
            if not reached >> hand & 1:
                told.append((hand, at, reached))
    return told


def all_falls(many, rounds, most):
    """Each tuple of falls, of at most so many hands, in rounds 1 to `rounds`."""
    told = [()]
    for hand in range(many):
        longer = []
        for falls in told:
            for fall in falls_of_hand(hand, many, rounds):
                if fall is None:
                    longer.append(falls)
                elif len(falls) < most:
                    longer.append(falls + (fall,))
        told = longer
    return told


def many_runs():
    """Runs of two to five hands; whom a fall reaches, and when, in all ways or in many."""
    runs = [((4, -2), falls) for falls in all_falls(2, 5, 2)]
    runs += [((3, 0, 3), falls) for falls in all_falls(3, 3, 2)]
    runs += [((3, 0, 3), falls) for falls in all_falls(3, 2, 3)[::5]]
    runs += [((9, -1, 5, 2), falls) for falls in all_falls(4, 3, 2)[::23]]
    runs += [((9, -1, 5, 2), falls) for falls in all_falls(4, 2, 3)[::331]]
    runs += [((5, 4, 3, 2, 1), falls) for falls in all_falls(5, 3, 2)[::487]]
    runs += [((1, 2, 3, 4, 0), falls) for falls in all_falls(5, 1, 4)[::9973]]
    return runs


def up_by_words(run, hand, rounds):
    return all(fall[0] != hand or fall[1] > rounds for fall in run[1])


def letter_by_words(run, by, to, at):
    reaching = any(fall[0] == by and fall[1] == at and fall[2] >> to & 1 for fall in run[1])
    return by != to and (up_by_words(run, by, at) or reaching) and up_by_words(run, to, at)


def view_by_words(run, hand, rounds):
    if not up_by_words(run, hand, rounds):
        return None
    if rounds == 0:
        return (hand, run[0][hand])
    parts = []
    for other in range(len(run[0])):
        there = other == hand or letter_by_words(run, other, hand, rounds)
        parts.append(view_by_words(run, other, rounds - 1) if there else None)
    return (hand, tuple(parts))


def contained_by_words(view, rounds):
    """Pairs (rounds, view), of the view behind so many rounds and all that it contains."""
    told = [(rounds, view)]
    if rounds > 0:
        for part in view[1]:
            if part is not None:
                told += contained_by_words(part, rounds - 1)
    return told


def heard_by_words(view):
    return sum(2 ** hand for hand, part in enumerate(view[1]) if part is not None)


def clean_by_words(view, rounds):
    if rounds == 0:
        return False
    if rounds == 1:
        return None not in view[1]
    return heard_by_words(view) == heard_by_words(view[1][view[0]])


def lacking_by_words(view, own, rounds):
    hands = set()
    for behind, each in contained_by_words(view, own):
        if 1 <= behind <= rounds:
            hands |= {hand for hand, part in enumerate(each[1]) if part is None}
    return sum(2 ** hand for hand in hands)


def each_view(most):
    """(rounds, view) of many runs, behind 0 to `most` rounds."""
    for run in many_runs():
        for rounds in range(most + 1):
            for view in views_of(run, rounds):
                if view is not None:
                    yield rounds, view


def with_falls(run, falls):
    return (run[0], tuple(sorted(falls)))


def variants(run):
    """Runs that differ from it in one number, in one hand reached, in one fall or in the round of one."""
    numbers, falls = run
    many = len(numbers)
    fallen = [fall[0] for fall in falls]
    told = []
    for hand in range(many):
        told.append((numbers[:hand] + (numbers[hand] + 1,) + numbers[hand + 1:], falls))
        everybody = 2 ** many - 1 - 2 ** hand
        if hand not in fallen:
            told += [with_falls(run, falls + ((hand, at, reached),)) for at in (1, 2, 4) for reached in (0, everybody)]
    for hand, at, reached in falls:
        others = tuple(fall for fall in falls if fall[0] != hand)
        told.append((numbers, others))
        told += [with_falls(run, others + ((hand, at, reached ^ 2 ** to),)) for to in range(many) if to != hand]
        told.append(with_falls(run, others + ((hand, at % 5 + 1, reached),)))
    return told


def few_falls(many, rounds, most):
    """As all_falls, but of each hand alone falls that reach nobody, everybody, one hand, or all but one."""
    told = [()]
    for hand in range(many):
        everybody = 2 ** many - 1 - 2 ** hand
        one = 2 ** ((hand + 1) % many)
        reaches = sorted({0, one, everybody - one, everybody})
        own = [(hand, at, reached) for at in range(1, rounds + 1) for reached in reaches]
        told += [falls + (fall,) for falls in told if len(falls) < most for fall in own]
    return told


def kept():
    """Pairs (run, bound): many runs that keep a bound, those of two and three hands in all ways of falling."""
    told = [((numbers, falls), 0) for numbers in [(4, -2), (0, 1)] for falls in all_falls(2, 1, 0)]
    for numbers in [(0, 1, 2), (2, 0, 1), (1, 2, 0), (-3, -3, 5), (7, 7, 7)]:
        told += [((numbers, falls), 1) for falls in all_falls(3, 5, 1)]
        told.append(((numbers, ()), 0))
    for numbers in [(0, 1, 2, 3), (3, 2, 1, 0)]:
        told += [((numbers, falls), 2) for falls in all_falls(4, 4, 2)[::31]]
        told += [((numbers, falls), 2) for falls in all_falls(4, 1, 2)[::3]]
        told += [((numbers, falls), 1) for falls in all_falls(4, 3, 1)]
    for numbers in [(0, 1, 2, 3, 4), (4, 3, 2, 1, 0), (-1, 0, -1, 0, -2)]:
        told += [((numbers, falls), 3) for falls in few_falls(5, 4, 3)[::211]]
        told += [((numbers, falls), 3) for falls in few_falls(5, 1, 3)[::11]]
        told += [((numbers, falls), 2) for falls in few_falls(5, 3, 2)[::29]]
        told += [((numbers, falls), 1) for falls in few_falls(5, 2, 1)[::5]]
    return told
