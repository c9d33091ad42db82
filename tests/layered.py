"""Layered stands, and papers of goings, made and read by another hand than the package's."""

import itertools
import random


def row(name, one, other, layer=0, kept=True, weight=0):
    return (name, one, other, weight, layer, kept)


def layered(many, *rows):
    return (many, tuple(sorted(rows)))


def some_names(dice, how_many):
    names = set()
    while len(names) < how_many:
        names.add("".join(dice.choice("abcxyz") for letter in range(dice.randint(1, 8))))
    return dice.sample(sorted(names), how_many)


def halved(many, times):
    for time in range(times):
        many = many // 2
    return many


def top_layer(many):
    """The greatest layer, by the words of [13]."""
    return max([0] + [times for times in range(10) if halved(many, times) >= 2])


def some_layers(seed, many=None, loose=6, most=60, eager=0.8):
    """A layered stand that is let by: groups of places are tied together from the greatest layer down.

    loose is how many ties that are not kept are tried at each layer.
    """
    dice = random.Random(seed)
    many = many or dice.randint(1, 24)
    groups = [[place] for place in range(many)]
    # All groups of more than one place that there were; each lies in one that there is.
    wide = []
    rows = []
    for layer in range(top_layer(many), -1, -1):
        for turn in range(many):
            if len(groups) > 1 and dice.random() < eager:
                one, other = dice.sample(groups, 2)
                if len(one) + len(other) <= halved(many, layer):
                    rows.append((*dice.sample((dice.choice(one), dice.choice(other)), 2), layer, True))
                    groups = [group for group in groups if group not in (one, other)] + [one + other]
                    wide.append(one + other)
        for turn in range(loose if wide else 0):
            rows.append((*dice.sample(dice.choice(wide), 2), layer, False))
    while len(rows) > most:
        rows.remove(dice.choice([tie for tie in rows if not tie[3]]))
    names = some_names(dice, len(rows))
    return layered(many, *[
        row(name, one, other, layer, kept, dice.choice((0, 1, 5, 10 ** 9)))
        for name, (one, other, layer, kept) in zip(names, rows)
    ])


def some_layered_stands(how_many=60):
    """Layered stands of many kinds, those without ties and of one place too."""
    rows = [(many, ()) for many in (1, 2, 24)]
    for seed in range(how_many):
        rows.append(some_layers(
            seed,
            many=(1, 2, 3, 4, 5, 8, 9, 16, 24)[seed % 9],
            loose=(0, 1, 3, 6, 15)[seed % 5],
            eager=(0.3, 0.6, 1)[seed % 3],
        ))
    return rows


def parts_reckoned(many, rows):
    """For each place the set of all that are joined with it."""
    parts = [{place} for place in range(many)]
    for tie in rows:
        both = parts[tie[1]] | parts[tie[2]]
        for place in both:
            parts[place] = both
    return parts


def holds_reckoned(layers):
    """Whether a layered stand of the right form is let by, by the words of [13]."""
    many, rows = layers
    for tie in rows:
        others = [other for other in rows if other[5] and other != tie]
        # A kept tie is in a ring just where the other kept ones join its places without it.
        if tie[5] and tie[2] in parts_reckoned(many, others)[tie[1]]:
            return False
    for layer in range(max([0] + [tie[4] for tie in rows]) + 1):
        parts = parts_reckoned(many, [tie for tie in rows if tie[4] >= layer])
        if parts != parts_reckoned(many, [tie for tie in rows if tie[4] >= layer and tie[5]]):
            return False
        if any(len(part) > 1 and len(part) > halved(many, layer) for part in parts):
            return False
    return True


def rows_by_name(rows):
    return {tie[0]: list(tie) for tie in rows}


def sides_of_going(many, ties, layer, one, other):
    """The two parts of a gone tie's places, as sorted tuples."""
    parts = parts_reckoned(many, [tie for tie in ties.values() if tie[4] >= layer and tie[5]])
    return tuple(sorted(parts[one])), tuple(sorted(parts[other]))


def loose_of(ties, layer, places, ends):
    """The names of the ties not kept, of just this layer, with so many of their places in places."""
    return [name for name, tie in ties.items()
            if tie[4] == layer and not tie[5] and (tie[1] in places) + (tie[2] in places) == ends]


def do_round(ties, layer, places, looked, found):
    """Changes ties as a round does."""
    risen = [name for name, tie in ties.items()
             if tie[5] and tie[4] == layer and {tie[1], tie[2]} <= set(places)]
    for name in risen + list(looked):
        ties[name][4] += 1
    if found is not None:
        ties[found][5] = True


def going_reckoned(layers, name, paper):
    """What comes of a going by a paper, or None where the paper is none for it, by the words of [15]."""
    many, rows = layers
    ties = rows_by_name(rows)
    gone = ties.pop(name)
    layer = gone[4]
    is_done = not gone[5]
    for at, places, looked, found in paper:
        if is_done or at != layer:
            return None
        sides = sides_of_going(many, ties, layer, gone[1], gone[2])
        if places not in sides or len(places) > min(map(len, sides)):
            return None
        within, leading = loose_of(ties, layer, places, 2), loose_of(ties, layer, places, 1)
        if len(set(looked)) < len(looked) or not set(looked) <= set(within):
            return None
        if found is None and (leading or set(looked) < set(within)):
            return None
        if found is not None and found not in leading:
            return None
        do_round(ties, layer, places, looked, found)
        is_done = found is not None or layer == 0
        layer -= 1
    if not is_done:
        return None
    return (many, tuple(tuple(ties[key]) for key in sorted(ties)))


def all_goings(layers, name, dice, most=40):
    """Right papers for a going and what comes of each: all choices of part and found, some of looked."""
    many, rows = layers
    ties = rows_by_name(rows)
    gone = ties.pop(name)
    told = []

    def go_on(ties, layer, rounds):
        if len(told) >= most:
            return
        sides = sides_of_going(many, ties, layer, gone[1], gone[2])
        for places in [side for side in sides if len(side) == min(map(len, sides))]:
            within, leading = loose_of(ties, layer, places, 2), loose_of(ties, layer, places, 1)
            for found in leading or [None]:
                counts = {0, len(within), dice.randint(0, len(within))} if leading else {len(within)}
                for count in counts:
                    looked = tuple(dice.sample(within, count))
                    behind = {key: list(tie) for key, tie in ties.items()}
                    do_round(behind, layer, places, looked, found)
                    paper = rounds + ((layer, places, looked, found),)
                    if found is not None or layer == 0:
                        told.append(((many, tuple(tuple(behind[key]) for key in sorted(behind))), paper))
                    else:
                        go_on(behind, layer - 1, paper)

    if not gone[5]:
        return [((many, tuple(tie for tie in rows if tie[0] != name)), ())]
    go_on(ties, gone[4], ())
    return told


def subsets(things):
    for count in range(len(things) + 1):
        yield from itertools.combinations(things, count)
