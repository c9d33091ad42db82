"""A reader of papers of goings, whoever wrote them."""

from joinedever.going import lesser_parts, loose_names, row_of, rows_behind, rows_without
from joinedever.histories import is_places
from joinedever.layers import layers_hold
from joinedever.wholes import is_whole


def are_looked(within, thing):
    """Whether a thing is a tuple of unlike ones of some names, which rise."""
    if not isinstance(thing, tuple) or not all([name in within for name in thing]):
        return False
    return sorted(thing) == [name for name in within if name in thing]


def is_round(many, rows, layer, tie, thing):
    """Whether a thing is a round for a gone tie at a layer, rows being what is there by then."""
    if not isinstance(thing, tuple) or len(thing) != 4:
        return False
    at, places, looked, found = thing
    if not is_whole(at) or at != layer:
        return False
    if not is_places(many, places) or places not in lesser_parts(many, rows, layer, tie):
        return False
    within = loose_names(rows, layer, places, 2)
    if not are_looked(within, looked):
        return False
    leading = loose_names(rows, layer, places, 1)
    if found is None:
        return leading == [] and len(looked) == len(within)
    return found in leading


def rows_by(many, rows, tie, paper):
    """The rows that come of the rows left by a gone tie, by a tuple of things as paper; None where it is none."""
    if not tie[5]:
        return rows if paper == () else None
    layer = tie[4]
    for number, thing in enumerate(paper):
        if not is_round(many, rows, layer, tie, thing):
            return None
        rows = rows_behind(rows, thing)
        if thing[3] is not None or layer == 0:
            # This round is the last one, so none may stand behind it.
            return rows if number == len(paper) - 1 else None
        layer -= 1
    return None


def going_holds(layers, name, thing):
    """Whether a thing is a pair of what comes of the going of a tie, and a paper of it."""
    if not isinstance(thing, tuple) or len(thing) != 2:
        return False
    behind, paper = thing
    # What comes of a right paper is let by; asked first, so that no truth is taken for a number.
    if not layers_hold(behind) or not isinstance(paper, tuple):
        return False
    many, rows = layers
    told = rows_by(many, rows_without(rows, name), row_of(rows, name), paper)
    return told is not None and behind == (many, told)
