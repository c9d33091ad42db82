"""Papers of histories: of two places a way that joins them, or a cut that parts them."""

from joinedever.stands import stand_behind
from joinedever.ways import cut_between, is_cut, is_way, way_between


def paper_for(history, n, one, other):
    """("joined", way) or ("parted", cut), of the stand behind n deeds."""
    many, stand = history[0], stand_behind(history, n)
    way = way_between(many, stand, one, other)
    if way is None:
        return ("parted", cut_between(many, stand, one, other))
    return ("joined", way)


def is_paper(history, n, one, other, thing):
    """Whether a thing is a paper for two places, of the stand behind n deeds."""
    if not isinstance(thing, tuple) or len(thing) != 2:
        return False
    word, told = thing
    stand = stand_behind(history, n)
    if word == "joined":
        return is_way(stand, one, other, told)
    return word == "parted" and is_cut(history[0], stand, one, other, told)
