"""Layered stands: each tie lies at a layer, and the ties that are kept join all without a ring."""

from joinedever.histories import has_shape, is_tie
from joinedever.walking import has_ring, parts_of
from joinedever.wholes import is_within

MOST_TIES = 60


def room_at(many, layer):
    """How many places a part may have at a layer: many, halved so often, each time the rest left out."""
    return many >> layer


def most_layer(many):
    """The greatest layer at which there is room for the two places of a tie; 0 of one place."""
    layer = 0
    while room_at(many, layer + 1) >= 2:
        layer += 1
    return layer


def bare_layers(many):
    """The layered stand without ties."""
    return (many, ())


def ties_from(rows, layer):
    """The ties of layers from one on."""
    return [row[:4] for row in rows if row[4] >= layer]


def kept_from(rows, layer):
    """The kept ties of layers from one on."""
    return [row[:4] for row in rows if row[4] >= layer and row[5]]


def stand_of(layers):
    """The ties of a layered stand alone."""
    return tuple(ties_from(layers[1], 0))


def is_row(many, thing):
    """Whether a thing is a tie with a layer that there is, and a truth whether it is kept."""
    if not isinstance(thing, tuple) or len(thing) != 6:
        return False
    # Above the greatest layer there is no room for any tie.
    return is_tie(many, thing[:4]) and is_within(thing[4], 0, most_layer(many)) and isinstance(thing[5], bool)


def has_form(thing):
    """Whether a thing is a pair of a number of places and rows of ties, rising, of unlike names."""
    if not has_shape(thing, MOST_TIES):
        return False
    many, rows = thing
    if not all([is_row(many, row) for row in rows]):
        return False
    # Where names are unlike, they alone tell which row is greater.
    return all([ahead[0] < row[0] for ahead, row in zip(rows, rows[1:])])


def holds_at(many, rows, layer):
    """Whether kept ties join what ties of layers from one on join, and there is room for each part."""
    parts = parts_of(many, ties_from(rows, layer))
    if parts != parts_of(many, kept_from(rows, layer)):
        return False
    # Up to the greatest layer there is room for one place, so parts of one need no word of their own.
    return all([len(part) <= room_at(many, layer) for part in parts])


def layers_hold(thing):
    """Whether a thing is a layered stand that is let by."""
    if not has_form(thing):
        return False
    many, rows = thing
    if has_ring(many, kept_from(rows, 0)):
        return False
    return all([holds_at(many, rows, layer) for layer in range(most_layer(many) + 1)])
