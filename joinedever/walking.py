"""The plain walk of a stand, from place to place along its ties."""


def beside_of(many, stand):
    """For each place pairs of the name of a tie of its own and the place that it leads to."""
    beside = [[] for place in range(many)]
    for name, one, other, weight in stand:
        beside[one].append((name, other))
        beside[other].append((name, one))
    return beside


def ways_from(many, stand, place):
    """For each place the names of the fewest ties that lead to it from the one told, or None."""
    beside = beside_of(many, stand)
    ways = [None] * many
    ways[place] = ()
    waiting = [place]
    while waiting:
        here = waiting.pop(0)
        for name, there in beside[here]:
            if ways[there] is None:
                ways[there] = ways[here] + (name,)
                waiting.append(there)
    return ways


def part_of(many, stand, place):
    """All places that are joined with a place, rising."""
    ways = ways_from(many, stand, place)
    return tuple([there for there in range(many) if ways[there] is not None])


def are_joined(many, stand, one, other):
    """Whether ties lead from one place to the other."""
    return other in part_of(many, stand, one)


def parts_of(many, stand):
    """All parts, by their least places."""
    parts = [part_of(many, stand, place) for place in range(many)]
    # Each part was walked from all of its places; the walk from its least one is told.
    return tuple([part for place, part in enumerate(parts) if part[0] == place])


def place_over(stand, place, thing):
    """Where the tie that a thing names leads from a place; None where it names none that leads from there."""
    for name, one, other, weight in stand:
        if name == thing and place in (one, other):
            return one + other - place
    return None


def leads(stand, one, other, thing):
    """Whether a thing is a tuple of names of ties that lead, one behind another, from one place to another."""
    if not isinstance(thing, tuple):
        return False
    here = one
    for name in thing:
        here = place_over(stand, here, name)
        if here is None:
            return False
    return here == other


def ties_out(stand, places):
    """The ties that lead out of some places: just one of their two is among them."""
    return [tie for tie in stand if (tie[1] in places) != (tie[2] in places)]


def has_ring(many, stand):
    """Whether some ties lead round from a place back to it; two of like places do."""
    # A tie that makes no ring makes one part of two, so there is one part less for each of them.
    return len(stand) > many - len(parts_of(many, stand))
