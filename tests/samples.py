"""Histories, odd things and plain reckonings that several tests use."""

import copy
import random

MOST = 10 ** 9
LETTERS = "abcdefghijklmnopqrstuvwxyz"

# Things of many kinds, none of them a name, a whole number or a history.
ODD_THINGS = (
    True, False, None, "", " ", "come", "A", "a b", "7", "~" * 4000, "line\nend",
    (), ((),), (1,), (1, 2, 3), ("a", "b"), (None, None), (True, ()), (0, 0),
    [], [1], [[]], [2, ()], {}, {"a": 1}, {1: (2, [3])}, ([],), ({},),
)


def deep_thing(levels):
    thing = ()
    for level in range(levels):
        thing = (thing,) if level % 2 else [thing]
    return thing


def wide_thing(parts):
    return tuple(range(parts))


def come(moment, name, one=0, other=1, weight=0):
    return ("come", moment, name, one, other, weight)


def go(moment, name):
    return ("go", moment, name)


def some_history(seed, many=None, deeds=60, names="abcdef", gap=2):
    """A right history, the same for the same seed; gap is the greatest step between two moments."""
    dice = random.Random(seed)
    many = many or dice.randint(2, 24)
    there = set()
    rows = []
    moment = dice.randint(0, gap)
    for number in range(deeds):
        moment += dice.randint(0, gap)
        name = dice.choice(names)
        if name in there:
            there.discard(name)
            rows.append(go(moment, name))
        else:
            there.add(name)
            one, other = dice.sample(range(many), 2)
            rows.append(come(moment, name, one, other, dice.randint(0, 5)))
    return (many, tuple(rows))


def some_histories(how_many=40):
    """Histories of many kinds: few and many places, few and many deeds, crowded and wide moments."""
    rows = [(many, ()) for many in (1, 2, 24)]
    for seed in range(how_many):
        rows.append(some_history(
            seed,
            many=(2, 3, 4, 5, 7, 24)[seed % 6],
            deeds=(1, 5, 12, 30, 60)[seed % 5],
            names=("ab", "abcdef", LETTERS)[seed % 3],
            gap=(0, 1, 2, 5)[seed % 4],
        ))
    return rows


def moments_of(history):
    """The moments of all deeds and those beside them, 0 and the last one."""
    beside = {deed[1] + step for deed in history[1] for step in (-1, 0, 1)}
    return sorted(moment for moment in beside | {0, MOST} if 0 <= moment <= MOST)


def stand_reckoned(history, n):
    """The stand by the last deed of each name, not by doing the deeds in turn."""
    done = history[1][:n]
    last = {deed[2]: deed for deed in done}
    return tuple(sorted(deed[2:] for deed in last.values() if deed[0] == "come"))


def reach_reckoned(many, stand):
    """For each two places whether they are joined, by steps over each place in turn."""
    reach = [[one == other for other in range(many)] for one in range(many)]
    for tie in stand:
        reach[tie[1]][tie[2]] = reach[tie[2]][tie[1]] = True
    for over in range(many):
        for one in range(many):
            for other in range(many):
                if reach[one][over] and reach[over][other]:
                    reach[one][other] = True
    return reach


def stays_as_it_was(case, act, *things):
    """Does act on the things and sees that they are as they were; tells what act told."""
    ahead = copy.deepcopy(things)
    told = act(*things)
    case.assertEqual(repr(things), repr(ahead))
    return told


def is_number(thing):
    return type(thing) is int
