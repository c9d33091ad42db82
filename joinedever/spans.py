"""Spans: sets of moments, told by where they begin and end."""

from joinedever.wholes import is_whole


def is_span(thing):
    """Whether a thing is a pair of a whole number and a greater one, or None for no end."""
    if not isinstance(thing, tuple) or len(thing) != 2:
        return False
    low, high = thing
    return is_whole(low) and (high is None or (is_whole(high) and low < high))


def is_spans(thing):
    """Whether a thing has the form of spans."""
    if not isinstance(thing, tuple):
        return False
    # So the first pair may begin at 0, and not below it.
    ahead = -1
    for pair in thing:
        # Behind a pair without an end there is no moment left.
        if ahead is None or not is_span(pair) or pair[0] <= ahead:
            return False
        ahead = pair[1]
    return True


def lesser_end(one, other):
    """The end that is met first; None is met never."""
    if one is None:
        return other
    if other is None:
        return one
    return min(one, other)


def has_moment(spans, moment):
    """Whether a moment is in spans."""
    return any([low <= moment and (high is None or moment < high) for low, high in spans])


def common_spans(one, other):
    """The moments that are in both."""
    common = []
    # No two of these touch: moments side by side that are in both lie in one pair of each.
    for low, high in one:
        for start, stop in other:
            begin = max(low, start)
            end = lesser_end(high, stop)
            if end is None or begin < end:
                common.append((begin, end))
    return tuple(common)


def other_spans(spans):
    """All moments from 0 on that are not in spans."""
    others = []
    begin = 0
    for low, high in spans:
        if begin < low:
            others.append((begin, low))
        begin = high
    if begin is not None:
        others.append((begin, None))
    return tuple(others)


def joint_spans(one, other):
    """The moments that are in either."""
    # A moment is in either just where it is not out of both.
    return other_spans(common_spans(other_spans(one), other_spans(other)))


def length_below(spans, end):
    """How many moments of spans are below an end."""
    return sum([max(0, lesser_end(high, end) - low) for low, high in spans])
