"""Goings of ties out of layered stands, and the papers that tell of them round by round.

A round is a tuple (layer, places, looked, found).
"""

from joinedever.errors import NoDeed
from joinedever.layers import kept_from
from joinedever.walking import part_of


def row_of(rows, name):
    """The row of the tie of a name, or None."""
    for row in rows:
        if row[0] == name:
            return row
    return None


def rows_without(rows, name):
    """The rows of all ties but the one of a name."""
    return tuple([row for row in rows if row[0] != name])


def lesser_parts(many, rows, layer, tie):
    """Of the two parts that a gone tie leaves at a layer those that have not more places than the other."""
    ties = kept_from(rows, layer)
    parts = [part_of(many, ties, place) for place in tie[1:3]]
    least = min([len(part) for part in parts])
    return [part for part in parts if len(part) == least]


def loose_names(rows, layer, places, ends):
    """The names of the ties of just a layer, not kept, that have so many of their two ends in places."""
    loose = [row for row in rows if row[4] == layer and not row[5]]
    return [row[0] for row in loose if len([place for place in row[1:3] if place in places]) == ends]


def row_behind(row, told):
    """A row as it is behind a round."""
    layer, places, looked, found = told
    name, one, other, weight, at, kept = row
    if name == found:
        return (name, one, other, weight, at, True)
    lies_within = kept and at == layer and one in places and other in places
    if lies_within or name in looked:
        return (name, one, other, weight, at + 1, kept)
    return row


def rows_behind(rows, told):
    """All rows as they are behind a round."""
    return tuple([row_behind(row, told) for row in rows])


def round_at(many, rows, layer, tie):
    """A round for a gone tie at a layer: ties are looked at by their names till one leads out."""
    places = lesser_parts(many, rows, layer, tie)[0]
    leading = loose_names(rows, layer, places, 1)
    found = leading[0] if leading else None
    within = loose_names(rows, layer, places, 2)
    looked = tuple([name for name in within if found is None or name < found])
    return (layer, places, looked, found)


def gone(layers, name):
    """The layered stand when the tie of a name has gone, and a paper of it; NoDeed where it isn't there."""
    many, rows = layers
    tie = row_of(rows, name)
    if tie is None:
        raise NoDeed("gone")
    rows = rows_without(rows, name)
    # A tie that isn't kept joins nothing that kept ones don't, so none is sought in its stead.
    if not tie[5]:
        return ((many, rows), ())
    paper = []
    for layer in range(tie[4], -1, -1):
        told = round_at(many, rows, layer, tie)
        rows = rows_behind(rows, told)
        paper.append(told)
        if told[3] is not None:
            break
    return ((many, rows), tuple(paper))
