"""Joins of places that can be taken back."""

from joinedever.errors import NoMark
from joinedever.wholes import is_within


def stays(tops, one, other):
    """Whether of two parts, told by their tops, the first one stays as it is when they are joined."""
    more = tops.count(one) - tops.count(other)
    return more > 0 or (more == 0 and one < other)


def joined_parts(tops, sides, one, other):
    """The tops and the sides when the parts of two places are made one."""
    kept, taken = tops[one], tops[other]
    if not stays(tops, kept, taken):
        kept, taken = taken, kept
    turn = 1 if sides[one] == sides[other] else 0
    new_tops = [kept if top == taken else top for top in tops]
    new_sides = [side ^ turn if top == taken else side for top, side in zip(tops, sides)]
    return tuple(new_tops), tuple(new_sides)


class Takes:
    """Places, the joins done of them, and how all was behind each of these."""

    def __init__(self, many):
        # One state more than joins: what was ahead of a join is kept whole, so taking it back can't miss a thing.
        self.states = [(tuple(range(many)), (0,) * many, 0)]

    def join(self, one, other):
        """Does a join and lays it behind the others; True where it was of two parts."""
        tops, sides, odds = self.shown()
        is_new = tops[one] != tops[other]
        if is_new:
            tops, sides = joined_parts(tops, sides, one, other)
        elif sides[one] == sides[other]:
            odds += 1
        self.states.append((tops, sides, odds))
        return is_new

    def top(self, place):
        """The top of a place's part."""
        return self.shown()[0][place]

    def side(self, place):
        """The side of a place."""
        return self.shown()[1][place]

    def size(self, place):
        """How many places the part of a place has."""
        return self.shown()[0].count(self.top(place))

    def parts(self):
        """How many parts there are."""
        # Each part has just one place that is its own top.
        return len([place for place, top in enumerate(self.shown()[0]) if top == place])

    def odd(self):
        """How many odd joins there are."""
        return self.shown()[2]

    def joins(self):
        """How many joins are done."""
        return len(self.states) - 1

    def shown(self):
        """All: the tops of all places, their sides, and how many joins are odd."""
        return self.states[-1]

    def back(self, thing):
        """Takes the last joins back till so many are done; NoMark of what is no such number."""
        if not is_within(thing, 0, self.joins()):
            raise NoMark(thing)
        self.states = self.states[:thing + 1]
