"""Deeds done one by one, with ties in layers, and the answers to asks that come of it."""

from joinedever.answering import answer_of
from joinedever.coming import came
from joinedever.going import gone
from joinedever.layers import bare_layers, kept_from, stand_of


def layers_next(layers, deed):
    """The layered stand behind a deed, of the one ahead of it."""
    if deed[0] == "come":
        return came(layers, deed[2:])
    return gone(layers, deed[2])[0]


def all_layers(history):
    """The layered stands behind 0, 1 and so on to all deeds."""
    many, deeds = history
    told = [bare_layers(many)]
    for deed in deeds:
        told.append(layers_next(told[-1], deed))
    return told


def layers_behind(history, n):
    """The layered stand behind n deeds."""
    return all_layers(history)[n]


def answer_from(layers, ask):
    """The answer to one ask, of the layered stand that it asks of."""
    many, rows = layers
    if ask[0] == "even":
        return answer_of(many, stand_of(layers), ask)
    # Kept ties join all that ties join.
    return answer_of(many, kept_from(rows, 0), ask)


def answers_one_by_one(history, asks):
    """The answers to a tuple of asks, in their order."""
    told = all_layers(history)
    return tuple([answer_from(told[ask[1]], ask) for ask in asks])


def rises_between(ahead, behind):
    """How many layers all ties rise from one layered stand to the next."""
    were = {row[0]: row[4] for row in ahead[1]}
    # A tie that has just come has not risen.
    return sum([row[4] - were.get(row[0], row[4]) for row in behind[1]])


def rises_of(history):
    """How many layers all ties rise in all deeds."""
    told = all_layers(history)
    return sum([rises_between(ahead, behind) for ahead, behind in zip(told, told[1:])])
