"""Answers to asks by a plain walk of each stand."""

from joinedever.sides import have_two_sides
from joinedever.stands import stand_behind
from joinedever.walking import are_joined, part_of, parts_of


def answer_of(many, stand, ask):
    """The answer to one ask, of the stand that it asks of."""
    word = ask[0]
    if word == "joined":
        return are_joined(many, stand, ask[2], ask[3])
    if word == "parts":
        return len(parts_of(many, stand))
    if word == "size":
        return len(part_of(many, stand, ask[2]))
    return have_two_sides(many, stand)


def answers_plainly(history, asks):
    """The answers to a tuple of asks, in their order."""
    return tuple([answer_of(history[0], stand_behind(history, ask[1]), ask) for ask in asks])
