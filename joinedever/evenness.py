"""When all parts have two sides."""

from joinedever.sides import have_two_sides
from joinedever.stands import spans_where, stand_behind


def even_behind(history):
    """For each number of deeds, from 0 to all, whether all parts have two sides behind so many."""
    many, deeds = history
    return tuple([have_two_sides(many, stand_behind(history, n)) for n in range(len(deeds) + 1)])


def even_spans(history):
    """The moments at which all parts have two sides."""
    return spans_where(history, even_behind(history))


def first_odd(history):
    """The least number of deeds behind which not all parts have two sides, or None."""
    odd = [n for n, is_even in enumerate(even_behind(history)) if not is_even]
    return odd[0] if odd else None
