"""Ways of ties between places, and cuts out of which no tie leads."""

from joinedever.histories import is_places
from joinedever.walking import leads, part_of, ties_out, ways_from

MOST_STEPS = 61


def way_between(many, stand, one, other):
    """The names of the fewest ties that lead from one place to the other, or None."""
    return ways_from(many, stand, one)[other]


def cut_between(many, stand, one, other):
    """The places that are joined with one, where the other is not among them, or None."""
    part = part_of(many, stand, one)
    return None if other in part else part


def is_way(stand, one, other, thing):
    """Whether a thing is a way of a stand from one place to the other."""
    return isinstance(thing, tuple) and len(thing) <= MOST_STEPS and leads(stand, one, other, thing)


def is_cut(many, stand, one, other, thing):
    """Whether a thing is a cut of a stand with one place in it, and not the other."""
    if not is_places(many, thing) or one not in thing or other in thing:
        return False
    return ties_out(stand, thing) == []
