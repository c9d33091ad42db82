"""Readers of papers of lightest forests, whoever wrote them."""

from joinedever.histories import is_places
from joinedever.lightest import ties_ahead, ties_named
from joinedever.walking import are_joined, has_ring, leads, ties_out


def is_forest(stand, thing):
    """Whether a thing is a rising tuple of names of a stand's ties."""
    return isinstance(thing, tuple) and thing == tuple([tie[0] for tie in stand if tie[0] in thing])


def has_names(names, thing):
    """Whether a thing is a tuple of pairs, one for each of some names, in their order."""
    if not isinstance(thing, tuple) or not all([isinstance(pair, tuple) and len(pair) == 2 for pair in thing]):
        return False
    return [pair[0] for pair in thing] == names


def is_cut(many, stand, tie, thing):
    """Whether a thing is a tuple of places that parts a tie, and no tie of a stand that is ahead of it."""
    if not is_places(many, thing) or (tie[1] in thing) == (tie[2] in thing):
        return False
    return ties_out(ties_ahead(stand, tie), thing) == []


def rings_hold(many, stand, forest, thing):
    """Whether a thing is a paper of rings for a forest, so that it is the lightest one."""
    if not is_forest(stand, forest):
        return False
    ties = ties_named(stand, forest)
    others = [tie for tie in stand if tie[0] not in forest]
    if has_ring(many, ties) or not has_names([tie[0] for tie in others], thing):
        return False
    return all([leads(ties_ahead(ties, tie), tie[1], tie[2], pair[1]) for tie, pair in zip(others, thing)])


def cuts_hold(many, stand, forest, thing):
    """Whether a thing is a paper of cuts for a forest, so that it is the lightest one."""
    if not is_forest(stand, forest) or not has_names(list(forest), thing):
        return False
    ties = ties_named(stand, forest)
    if not all([are_joined(many, ties, tie[1], tie[2]) for tie in stand]):
        return False
    return all([is_cut(many, stand, tie, pair[1]) for tie, pair in zip(ties, thing)])
