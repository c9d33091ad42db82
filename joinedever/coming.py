"""Comings of ties to layered stands."""

from joinedever.errors import NoDeed
from joinedever.layers import stand_of
from joinedever.walking import are_joined


def came(layers, tie):
    """The layered stand when a tie has come; NoDeed where one of its name is there."""
    many, rows = layers
    name, one, other, weight = tie
    if name in [row[0] for row in rows]:
        raise NoDeed("there")
    kept = not are_joined(many, stand_of(layers), one, other)
    return (many, tuple(sorted(rows + ((name, one, other, weight, 0, kept),))))
