"""Papers through moments: pieces (from, to, paper), each paper one of the stands at all moments of its piece."""

from joinedever.papers import is_paper, paper_for
from joinedever.spans import lesser_end
from joinedever.stands import stretches_of
from joinedever.wholes import is_whole


def stretches_within(stretches, low, high):
    """What lies of stretches from low on to high, but not high."""
    within = [(max(low, start), lesser_end(stop, high), n) for start, stop, n in stretches]
    return [(start, stop, n) for start, stop, n in within if start < stop]


def papers_through(history, one, other, low, high):
    """Pieces from low on to high with papers for two places, one piece for each stretch of like stands."""
    stretches = stretches_within(stretches_of(history), low, high)
    return tuple([(start, stop, paper_for(history, n, one, other)) for start, stop, n in stretches])


def is_piece(thing, begin):
    """Whether a thing has the form of a piece that begins at a moment."""
    if not isinstance(thing, tuple) or len(thing) != 3:
        return False
    return is_whole(thing[0]) and is_whole(thing[1]) and begin == thing[0] < thing[1]


def hold_through(history, one, other, low, high, thing):
    """Whether a thing tells pieces from low on to high with papers for two places."""
    if not isinstance(thing, tuple):
        return False
    stretches = stretches_of(history)
    begin = low
    for piece in thing:
        if not is_piece(piece, begin):
            return False
        begin, end, paper = piece
        if not all([is_paper(history, row[2], one, other, paper) for row in stretches_within(stretches, begin, end)]):
            return False
        begin = end
    return begin == high
