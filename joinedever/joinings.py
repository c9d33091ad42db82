"""When, and for how long, two places are joined."""

from joinedever.spans import length_below, lesser_end
from joinedever.stands import spans_where, stand_behind, stretches_of
from joinedever.walking import are_joined, parts_of


def joined_spans(history, one, other):
    """The moments at which two places are joined."""
    many, deeds = history
    truths = [are_joined(many, stand_behind(history, n), one, other) for n in range(len(deeds) + 1)]
    return spans_where(history, truths)


def first_joined(history, one, other):
    """The first moment at which two places are joined, or None."""
    spans = joined_spans(history, one, other)
    return spans[0][0] if spans else None


def last_joined(history, one, other, end):
    """The last moment below an end at which two places are joined, or None."""
    lasts = [lesser_end(high, end) - 1 for low, high in joined_spans(history, one, other) if low < end]
    return lasts[-1] if lasts else None


def how_long(history, one, other, end):
    """At how many moments below an end two places are joined."""
    return length_below(joined_spans(history, one, other), end)


def pairs_of(places):
    """All pairs of unlike ones of some rising places, the lesser first, rising."""
    return [(one, other) for at, one in enumerate(places) for other in places[at + 1:]]


def longest_pair(history, end):
    """The pair of places that is joined at the most moments below an end, or None of one place."""
    many = history[0]
    lengths = {pair: 0 for pair in pairs_of(list(range(many)))}
    # Each stand is walked but once for all pairs.
    for low, high, n in stretches_of(history):
        for part in parts_of(many, stand_behind(history, n)):
            for pair in pairs_of(part):
                lengths[pair] += length_below(((low, high),), end)
    # Of like many the first one is told: the pairs were laid there rising.
    return max(list(lengths), key=lambda pair: lengths[pair], default=None)
