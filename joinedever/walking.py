"""The plain walk of a stand, from place to place along its ties."""


def beside_of(many, stand):
    """For each place the places that a tie leads to from it."""
    beside = [[] for place in range(many)]
    for name, one, other, weight in stand:
        beside[one].append(other)
        beside[other].append(one)
    return beside


def steps_from(many, stand, place):
    """For each place how many ties lead to it from the one told, at the fewest, or None."""
    beside = beside_of(many, stand)
    steps = [None] * many
    steps[place] = 0
    waiting = [place]
    while waiting:
        here = waiting.pop(0)
        for there in beside[here]:
            if steps[there] is None:
                steps[there] = steps[here] + 1
                waiting.append(there)
    return steps


def part_of(many, stand, place):
    """All places that are joined with a place, rising."""
    steps = steps_from(many, stand, place)
    return tuple([there for there in range(many) if steps[there] is not None])


def are_joined(many, stand, one, other):
    """Whether ties lead from one place to the other."""
    return other in part_of(many, stand, one)


def parts_of(many, stand):
    """All parts, by their least places."""
    parts = [part_of(many, stand, place) for place in range(many)]
    # Each part was walked from all of its places; the walk from its least one is told.
    return tuple([part for place, part in enumerate(parts) if part[0] == place])


def has_ring(many, stand):
    """Whether some ties lead round from a place back to it; two of like places do."""
    # A tie that makes no ring makes one part of two, so there is one part less for each of them.
    return len(stand) > many - len(parts_of(many, stand))


def has_two_sides(many, stand):
    """Whether there are numbers 0 and 1 for the places such that no tie is between like ones."""
    for part in parts_of(many, stand):
        # In a part the number of one place tells all others: it changes with each step.
        steps = steps_from(many, stand, part[0])
        for name, one, other, weight in stand:
            if steps[one] is not None and (steps[one] + steps[other]) % 2 == 0:
                return False
    return True
