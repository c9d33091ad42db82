"""The two sides of all parts of a stand, or a ring of odd length where there are none, and a reader of both."""

from joinedever.walking import parts_of, ways_from
from joinedever.ways import is_way
from joinedever.wholes import is_within


def ways_from_least(many, stand):
    """For each place the names of the fewest ties that lead to it from the least place of its part."""
    told = [()] * many
    for part in parts_of(many, stand):
        ways = ways_from(many, stand, part[0])
        for place in part:
            told[place] = ways[place]
    return told


def ring_over(ways, tie):
    """The ring of a tie of like sides and the ways to its two places, without what these have in common."""
    there, back = ways[tie[1]], ways[tie[2]]
    # Neighbours of like sides are just as far from the least place, so the ways to them part somewhere.
    while there[0] == back[0]:
        there, back = there[1:], back[1:]
    return there + (tie[0],) + back[::-1]


def sides_of(many, stand):
    """("sides", numbers), 0 or 1 for each place, or ("ring", names) of an odd number of ties."""
    ways = ways_from_least(many, stand)
    # Where there are two sides, each tie on the way leads to the other one.
    numbers = tuple([len(way) % 2 for way in ways])
    for tie in stand:
        if numbers[tie[1]] == numbers[tie[2]]:
            return ("ring", ring_over(ways, tie))
    return ("sides", numbers)


def have_two_sides(many, stand):
    """Whether all parts have two sides."""
    return sides_of(many, stand)[0] == "sides"


def are_numbers(many, stand, thing):
    """Whether a thing is a tuple of 0 or 1 for each place, such that no tie is between like ones."""
    if not isinstance(thing, tuple) or len(thing) != many:
        return False
    if not all([is_within(number, 0, 1) for number in thing]):
        return False
    return all([thing[tie[1]] != thing[tie[2]] for tie in stand])


def is_odd_ring(many, stand, thing):
    """Whether a thing is a way of an odd number of names from some place back to it."""
    if not isinstance(thing, tuple) or len(thing) % 2 == 0:
        return False
    return any([is_way(stand, place, place, thing) for place in range(many)])


def sides_hold(many, stand, thing):
    """Whether a thing tells the sides of a stand, or an odd ring of it."""
    if not isinstance(thing, tuple) or len(thing) != 2:
        return False
    word, told = thing
    if word == "sides":
        return are_numbers(many, stand, told)
    return word == "ring" and is_odd_ring(many, stand, told)
