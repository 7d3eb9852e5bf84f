"""What several test files share: things of all kinds, many runs, and views by the document's words."""

from roundfall.alike import alike_to
from roundfall.breaking import told_by
from roundfall.runs import is_run, keeps
from roundfall.views import views_of


def nested(deep, listed):
    thing = 7
    for step in range(deep):
        thing = [thing] if listed else (thing,)
    return thing


# Things that are neither a whole number nor a run.
OTHER_THINGS = [
    True,
    False,
    None,
    "",
    "1",
    "ab",
    "5 0 -7 /",
    (),
    [],
    (1,),
    [1],
    (1, 2),
    [1, 2],
    (None, None),
    ("ab", "cd"),
    ((), ()),
    ((1,), ()),
    ((1, 2), None),
    ((1, 2), (), ()),
    ((1, 2), ((),)),
    ((1, 2), (0, 1, 2)),
    (True, False),
    (((1, 2), ()), ((1, 2), ())),
    nested(20, True),
    nested(20, False),
    tuple(range(1000)),
    list(range(1000)),
    "x" * 1000,
]


def falls_of_hand(hand, many, rounds):
    told = [None]
    for at in range(1, rounds + 1):
        for reached in range(2 ** many):
            if not reached >> hand & 1:
                told.append((hand, at, reached))
    return told


def all_falls(many, rounds, most):
    """Each tuple of falls, of at most so many hands, in rounds 1 to `rounds`."""
    told = [()]
    for hand in range(many):
        longer = []
        for falls in told:
            for fall in falls_of_hand(hand, many, rounds):
                if fall is None:
                    longer.append(falls)
                elif len(falls) < most:
                    longer.append(falls + (fall,))
        told = longer
    return told


def many_runs():
    """Runs of two to five hands; whom a fall reaches, and when, in all ways or in many."""
    runs = [((4, -2), falls) for falls in all_falls(2, 5, 2)]
    runs += [((3, 0, 3), falls) for falls in all_falls(3, 3, 2)]
    runs += [((3, 0, 3), falls) for falls in all_falls(3, 2, 3)[::5]]
    runs += [((9, -1, 5, 2), falls) for falls in all_falls(4, 3, 2)[::23]]
    runs += [((9, -1, 5, 2), falls) for falls in all_falls(4, 2, 3)[::331]]
    runs += [((5, 4, 3, 2, 1), falls) for falls in all_falls(5, 3, 2)[::487]]
    runs += [((1, 2, 3, 4, 0), falls) for falls in all_falls(5, 1, 4)[::9973]]
    return runs


def up_by_words(run, hand, rounds):
    return all(fall[0] != hand or fall[1] > rounds for fall in run[1])


def letter_by_words(run, by, to, at):
    reaching = any(fall[0] == by and fall[1] == at and fall[2] >> to & 1 for fall in run[1])
    return by != to and (up_by_words(run, by, at) or reaching) and up_by_words(run, to, at)


def view_by_words(run, hand, rounds):
    if not up_by_words(run, hand, rounds):
        return None
    if rounds == 0:
        return (hand, run[0][hand])
    parts = []
    for other in range(len(run[0])):
        there = other == hand or letter_by_words(run, other, hand, rounds)
        parts.append(view_by_words(run, other, rounds - 1) if there else None)
    return (hand, tuple(parts))


def contained_by_words(view, rounds):
    """Pairs (rounds, view), of the view behind so many rounds and all that it contains."""
    told = [(rounds, view)]
    if rounds > 0:
        for part in view[1]:
            if part is not None:
                told += contained_by_words(part, rounds - 1)
    return told


def heard_by_words(view):
    return sum(2 ** hand for hand, part in enumerate(view[1]) if part is not None)


def clean_by_words(view, rounds):
    if rounds == 0:
        return False
    if rounds == 1:
        return None not in view[1]
    return heard_by_words(view) == heard_by_words(view[1][view[0]])


def lacking_by_words(view, own, rounds):
    hands = set()
    for behind, each in contained_by_words(view, own):
        if 1 <= behind <= rounds:
            hands |= {hand for hand, part in enumerate(each[1]) if part is None}
    return sum(2 ** hand for hand in hands)


def each_view(most):
    """(rounds, view) of many runs, behind 0 to `most` rounds."""
    for run in many_runs():
        for rounds in range(most + 1):
            for view in views_of(run, rounds):
                if view is not None:
                    yield rounds, view


def with_falls(run, falls):
    return (run[0], tuple(sorted(falls)))


def variants(run):
    """Runs that differ from it in one number, in one hand reached, in one fall or in the round of one."""
    numbers, falls = run
    many = len(numbers)
    fallen = [fall[0] for fall in falls]
    told = []
    for hand in range(many):
        told.append((numbers[:hand] + (numbers[hand] + 1,) + numbers[hand + 1:], falls))
        everybody = 2 ** many - 1 - 2 ** hand
        if hand not in fallen:
            told += [with_falls(run, falls + ((hand, at, reached),)) for at in (1, 2, 4) for reached in (0, everybody)]
    for hand, at, reached in falls:
        others = tuple(fall for fall in falls if fall[0] != hand)
        told.append((numbers, others))
        told += [with_falls(run, others + ((hand, at, reached ^ 2 ** to),)) for to in range(many) if to != hand]
        told.append(with_falls(run, others + ((hand, at % 5 + 1, reached),)))
    return told


def few_falls(many, rounds, most):
    """As all_falls, but of each hand alone falls that reach nobody, everybody, one hand, or all but one."""
    told = [()]
    for hand in range(many):
        everybody = 2 ** many - 1 - 2 ** hand
        one = 2 ** ((hand + 1) % many)
        reaches = sorted({0, one, everybody - one, everybody})
        own = [(hand, at, reached) for at in range(1, rounds + 1) for reached in reaches]
        told += [falls + (fall,) for falls in told if len(falls) < most for fall in own]
    return told


def kept():
    """Pairs (run, bound): many runs that keep a bound, those of two and three hands in all ways of falling."""
    told = [((numbers, falls), 0) for numbers in [(4, -2), (0, 1)] for falls in all_falls(2, 1, 0)]
    for numbers in [(0, 1, 2), (2, 0, 1), (1, 2, 0), (-3, -3, 5), (7, 7, 7)]:
        told += [((numbers, falls), 1) for falls in all_falls(3, 5, 1)]
        told.append(((numbers, ()), 0))
    for numbers in [(0, 1, 2, 3), (3, 2, 1, 0)]:
        told += [((numbers, falls), 2) for falls in all_falls(4, 4, 2)[::31]]
        told += [((numbers, falls), 2) for falls in all_falls(4, 1, 2)[::3]]
        told += [((numbers, falls), 1) for falls in all_falls(4, 3, 1)]
    for numbers in [(0, 1, 2, 3, 4), (4, 3, 2, 1, 0), (-1, 0, -1, 0, -2)]:
        told += [((numbers, falls), 3) for falls in few_falls(5, 4, 3)[::211]]
        told += [((numbers, falls), 3) for falls in few_falls(5, 1, 3)[::11]]
        told += [((numbers, falls), 2) for falls in few_falls(5, 3, 2)[::29]]
        told += [((numbers, falls), 1) for falls in few_falls(5, 2, 1)[::5]]
    return told


def path_fault(path, rounds):
    """None for a path behind so many rounds; else what is wrong with it."""
    if not isinstance(path, list) or path == []:
        return "no list of runs"
    for run in path:
        if not is_run(run) or len(run[0]) != len(path[0][0]):
            return ("no run of as many hands", run)
    for run, other in zip(path, path[1:]):
        if alike_to(run, other, rounds) == []:
            return ("alike to nobody", run, other)
    return None


def hushable():
    """(run, hand, at, rounds): hands that can be hushed, in runs with and without falls up to that round."""
    told = []
    for many in range(2, 6):
        for rounds in range(5):
            for at in range(1, rounds + 2):
                room = many - 2 - (rounds + 1 - at)
                if room >= 0:
                    step = {0: 1, 1: 1, 2: 5, 3: 97}[room]
                    for falls in few_falls(many, at, room)[::step]:
                        fallen = [fall[0] for fall in falls]
                        hand = [hand for hand in range(many) if hand not in fallen][len(told) % (many - len(fallen))]
                        told.append(((tuple(range(many)), falls), hand, at, rounds))
    return told


def held(rule, bound):
    return lambda view: rule(view, bound)


def breaking_fault(told, rule, run, bound, rounds):
    """None where this is what `broken` may tell; else what is wrong with it."""
    there = told_by(rule, run, rounds)
    if all(number is None for hand, number in there):
        return None if told is None else "told, though nobody that is up has been told a number"
    if not isinstance(told, tuple) or len(told) < 3:
        return "no tuple of the two kinds"
    other = told[1]
    if not is_run(other) or len(other[0]) != len(run[0]) or not keeps(other, bound):
        return "no run of as many hands that keeps the bound"
    numbers = dict(told_by(rule, other, rounds))
    if told[0] == "torn" and len(told) == 4 and told[2] < told[3]:
        if told[2] in numbers and told[3] in numbers and numbers[told[2]] != numbers[told[3]]:
            return None
    if told[0] == "strange" and len(told) == 3 and len(set(other[0])) == 1:
        if numbers.get(told[2]) is not None and numbers[told[2]] != other[0][0]:
            return None
    return "the rule does not break there so"
