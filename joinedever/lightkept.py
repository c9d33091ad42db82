"""Lightest forests kept through comings and goings, without looking for them anew."""

from joinedever.lightest import rank_of, ties_named
from joinedever.stands import stand_behind
from joinedever.walking import part_of, ties_out, ways_from


def names_without(names, name):
    """All of some names but one."""
    return tuple([other for other in names if other != name])


def light_came(many, stand, forest, tie):
    """The lightest forest when a tie has come, and the name of what leaves it, or None."""
    name, one, other, weight = tie
    ties = ties_named(stand, forest)
    taken = tuple(sorted(forest + (name,)))
    way = ways_from(many, ties, one)[other]
    if way is None:
        return (taken, None)
    # The tie makes just one ring with the forest; what is behind all others of it holds nothing together.
    leaving = max(ties_named(ties, way) + [tie], key=rank_of)[0]
    return (names_without(taken, leaving), leaving)


def light_gone(many, stand, forest, name):
    """The lightest forest when the tie of a name has gone, and the name of what comes into it, or None."""
    if name not in forest:
        return (forest, None)
    left = names_without(forest, name)
    one = ties_named(stand, (name,))[0][1]
    part = part_of(many, ties_named(stand, left), one)
    leading = [tie for tie in ties_out(stand, part) if tie[0] != name]
    if not leading:
        return (left, None)
    coming = min(leading, key=rank_of)[0]
    return (tuple(sorted(left + (coming,))), coming)


def light_next(many, stand, forest, deed):
    """The lightest forest behind a deed, of the stand and its lightest forest ahead of it."""
    if deed[0] == "come":
        return light_came(many, stand, forest, deed[2:])[0]
    return light_gone(many, stand, forest, deed[2])[0]


def lights_of(history):
    """The lightest forests behind 0, 1 and so on to all deeds."""
    many, deeds = history
    forests = [()]
    for n, deed in enumerate(deeds):
        forests.append(light_next(many, stand_behind(history, n), forests[-1], deed))
    return tuple(forests)
