"""Which ties are there behind a number of deeds, and at a moment."""

from joinedever.spans import joint_spans


def deeds_by(history, moment):
    """How many deeds have no greater moment."""
    return len([deed for deed in history[1] if deed[1] <= moment])


def stand_behind(history, n):
    """The ties that are there when the first n deeds are done, rising."""
    there = {}
    for deed in history[1][:n]:
        name = deed[2]
        if deed[0] == "come":
            there[name] = deed[2:]
        else:
            del there[name]
    return tuple(sorted(there.values()))


def stand_at(history, moment):
    """The ties that are there at a moment, rising."""
    return stand_behind(history, deeds_by(history, moment))


def stretches_of(history):
    """All moments from 0 on in stretches (low, high, n): at each but high the stand is that behind n deeds.

    The last high is None.
    """
    lows = [0]
    for deed in history[1]:
        if deed[1] > lows[-1]:
            lows.append(deed[1])
    return [(low, high, deeds_by(history, low)) for low, high in zip(lows, lows[1:] + [None])]


def spans_where(history, truths):
    """The moments of whose stands something is so, by truths of the stands behind 0, 1 and so on to all deeds."""
    spans = ()
    for low, high, n in stretches_of(history):
        if truths[n]:
            spans = joint_spans(spans, ((low, high),))
    return spans
