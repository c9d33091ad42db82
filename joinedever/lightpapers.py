"""Papers of lightest forests: rings for the ties that are left out, cuts for those that are in."""

from joinedever.lightest import lightest, ties_ahead, ties_named
from joinedever.walking import part_of, ways_from


def rings_for(many, stand):
    """For each tie out of the lightest forest a way through it, from the tie's one to its other."""
    forest = lightest(many, stand)
    ties = ties_named(stand, forest)
    # The forest has but one way there, and its ties are all ahead: else the tie would be in it.
    return tuple([(tie[0], ways_from(many, ties, tie[1])[tie[2]]) for tie in stand if tie[0] not in forest])


def cuts_for(many, stand):
    """For each tie of the lightest forest the places that ties ahead of it join with its one."""
    forest = lightest(many, stand)
    return tuple([(tie[0], part_of(many, ties_ahead(stand, tie), tie[1])) for tie in ties_named(stand, forest)])
