"""What several test files share: things of all kinds, and many runs."""


def nested(deep, listed):
    thing = 7
    for step in range(deep):
        thing = [thing] if listed else (thing,)
    return thing


# Things that are neither a whole number nor a run.
OTHER_THINGS = [
    True,
    False,
    None,
    "",
    "1",
    "ab",
    "5 0 -7 /",
    (),
    [],
    (1,),
    [1],
    (1, 2),
    [1, 2],
    (None, None),
    ("ab", "cd"),
    ((), ()),
    ((1,), ()),
    ((1, 2), None),
    ((1, 2), (), ()),
    ((1, 2), ((),)),
    ((1, 2), (0, 1, 2)),
    (True, False),
    (((1, 2), ()), ((1, 2), ())),
    nested(20, True),
    nested(20, False),
    tuple(range(1000)),
    list(range(1000)),
    "x" * 1000,
]


def falls_of_hand(hand, many, rounds):
    told = [None]
    for at in range(1, rounds + 1):
        for reached in range(2 ** many):
            if not reached >> hand & 1:
                told.append((hand, at, reached))
    return told


def all_falls(many, rounds, most):
    """Each tuple of falls, of at most so many hands, in rounds 1 to `rounds`."""
    told = [()]
    for hand in range(many):
        longer = []
        for falls in told:
            for fall in falls_of_hand(hand, many, rounds):
                if fall is None:
                    longer.append(falls)
                elif len(falls) < most:
                    longer.append(falls + (fall,))
        told = longer
    return told


def many_runs():
    """Runs of two to five hands; whom a fall reaches, and when, in all ways or in many."""
    runs = [((4, -2), falls) for falls in all_falls(2, 5, 2)]
    runs += [((3, 0, 3), falls) for falls in all_falls(3, 3, 2)]
    runs += [((3, 0, 3), falls) for falls in all_falls(3, 2, 3)[::5]]
    runs += [((9, -1, 5, 2), falls) for falls in all_falls(4, 3, 2)[::23]]
    runs += [((9, -1, 5, 2), falls) for falls in all_falls(4, 2, 3)[::331]]
    runs += [((5, 4, 3, 2, 1), falls) for falls in all_falls(5, 3, 2)[::487]]
    runs += [((1, 2, 3, 4, 0), falls) for falls in all_falls(5, 1, 4)[::9973]]
    return runs
