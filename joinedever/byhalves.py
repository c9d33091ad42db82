"""Answers to asks by halves of the numbers of deeds, with joins that are done and taken back."""

from joinedever.halves import pieces_of
from joinedever.lives import lives_of
from joinedever.takes import Takes


def joins_laid(history):
    """For each half the joins of the lives that are there behind all of its numbers of deeds."""
    # The numbers of deeds go from 0 to all, so there is one more of them than deeds.
    size = len(history[1]) + 1
    laid = {}
    for name, start, stop, one, other, weight in lives_of(history):
        for half in pieces_of(size, start + 1, stop + 1):
            laid.setdefault(half, []).append((one, other))
    return laid


def answer_by(takes, ask):
    """The answer to one ask, when the joins of the stand that it asks of are done."""
    word = ask[0]
    if word == "joined":
        return takes.top(ask[2]) == takes.top(ask[3])
    if word == "parts":
        return takes.parts()
    if word == "size":
        return takes.size(ask[2])
    return takes.odd() == 0


def told_in(laid, takes, half, asks):
    """Pairs of the number of an ask and its answer, for all asks of the numbers of deeds of a half.

    The joins of all halves around this one are done; none are done or taken back beyond it.
    """
    low, high = half
    mark = takes.joins()
    for one, other in laid.get(half, []):
        takes.join(one, other)
    if high - low == 1:
        told = [(number, answer_by(takes, ask)) for number, ask in enumerate(asks) if ask[1] == low]
    else:
        middle = (low + high) // 2
        told = told_in(laid, takes, (low, middle), asks) + told_in(laid, takes, (middle, high), asks)
    takes.back(mark)
    return told


def answers_by_halves(history, asks):
    """The answers to a tuple of asks, in their order."""
    whole = (0, len(history[1]) + 1)
    told = told_in(joins_laid(history), Takes(history[0]), whole, asks)
    return tuple([answer for number, answer in sorted(told)])
