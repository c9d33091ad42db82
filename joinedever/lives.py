"""The lives of ties: from the deed by which one comes to the deed by which it goes."""

from joinedever.spans import joint_spans


def lives_of(history):
    """All lives, by the numbers of the deeds by which the ties come."""
    deeds = history[1]
    came = {}
    # A tie that doesn't go is there behind all deeds.
    ends = [len(deeds)] * len(deeds)
    for number, deed in enumerate(deeds):
        if deed[0] == "come":
            came[deed[2]] = number
        else:
            ends[came[deed[2]]] = number
    return tuple([
        (deed[2], number, ends[number], deed[3], deed[4], deed[5])
        for number, deed in enumerate(deeds) if deed[0] == "come"
    ])


def life_spans(deeds, start, stop):
    """The moments of a life from the deed of one number to that of another."""
    low = deeds[start][1]
    if stop == len(deeds):
        return ((low, None),)
    high = deeds[stop][1]
    # Come and gone at one moment, a tie is at no moment there.
    return ((low, high),) if low < high else ()


def there_spans(history, name):
    """The moments in whose stands a tie of a name is."""
    spans = ()
    for life in lives_of(history):
        if life[0] == name:
            spans = joint_spans(spans, life_spans(history[1], life[1], life[2]))
    return spans
