"""Stands with weights, and their lightest forests, found by another hand than the package's."""

import itertools
import random

from layered import parts_reckoned


def tie(name, one, other, weight=0):
    return (name, one, other, weight)


def some_stand(seed, many=None, ties=None, weights=4):
    """A stand, the same for the same seed."""
    dice = random.Random(seed)
    many = many or dice.randint(2, 24)
    how_many = dice.randint(0, 60) if ties is None else ties
    names = set()
    while len(names) < how_many:
        names.add("".join(dice.choice("abcz") for letter in range(dice.randint(1, 8))))
    return many, tuple((name, *dice.sample(range(many), 2), dice.randint(0, weights)) for name in sorted(names))


def some_stands(how_many=60):
    rows = [(1, ()), (2, ()), (24, ())]
    for seed in range(how_many):
        rows.append(some_stand(
            seed,
            many=(2, 3, 4, 6, 9, 24)[seed % 6],
            ties=(0, 1, 3, 8, 20, 40, 60)[seed % 7],
            weights=(0, 1, 3, 10 ** 9)[seed % 4],
        ))
    return rows


def is_ringless(many, ties):
    """Whether taking away any one tie parts its places."""
    return all(
        one[2] not in parts_reckoned(many, [other for other in ties if other != one])[one[1]] for one in ties
    )


def lightest_of_all(many, stand):
    """The lightest of all sets of ties that have no ring and join what the stand joins."""
    parts = parts_reckoned(many, stand)
    best = None
    for count in range(len(stand) + 1):
        for ties in itertools.combinations(stand, count):
            if parts_reckoned(many, ties) == parts and is_ringless(many, ties):
                key = sorted((one[3], one[0]) for one in ties)
                if best is None or key < best[0]:
                    best = (key, tuple(one[0] for one in ties))
    return best[1]


def lightest_by_taking_away(many, stand):
    """The lightest forest, by taking away the heaviest tie of a ring, till there is none."""
    left = list(stand)
    for heavy in sorted(stand, key=lambda one: (one[3], one[0]), reverse=True):
        others = [one for one in left if one != heavy]
        if heavy[2] in parts_reckoned(many, others)[heavy[1]]:
            left = others
    return tuple(one[0] for one in left)
