"""Lightest forests: the lightest ties that hold the parts of a stand together."""

from joinedever.walking import are_joined


def rank_of(tie):
    """What tells which tie is ahead: the lighter one, or, of like weights, that of the lesser name."""
    return (tie[3], tie[0])


def is_ahead(tie, other):
    """Whether a tie is lighter than another one, or, of like weights, ahead of it by its name."""
    return rank_of(tie) < rank_of(other)


def ties_ahead(stand, tie):
    """The ties of a stand that are ahead of one."""
    return [other for other in stand if is_ahead(other, tie)]


def ties_named(stand, names):
    """The ties of a stand that have some of these names."""
    return [tie for tie in stand if tie[0] in names]


def lightest(many, stand):
    """The names of the ties whose places are not joined by ties ahead of them alone, rising."""
    return tuple([tie[0] for tie in stand if not are_joined(many, ties_ahead(stand, tie), tie[1], tie[2])])
