"""Which ties are there behind a number of deeds, and at a moment."""


def deeds_by(history, moment):
    """How many deeds have no greater moment."""
    return len([deed for deed in history[1] if deed[1] <= moment])


def stand_behind(history, n):
    """The ties that are there when the first n deeds are done, rising."""
    there = {}
    for deed in history[1][:n]:
        name = deed[2]
        if deed[0] == "come":
            there[name] = deed[2:]
        else:
            del there[name]
    return tuple(sorted(there.values()))


def stand_at(history, moment):
    """The ties that are there at a moment, rising."""
    return stand_behind(history, deeds_by(history, moment))
