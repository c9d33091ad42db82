"""Halves of a row of numbers, and the fewest of them that make a stretch."""


def pieces_in(first, last, low, high):
    """The pieces of the stretch from low to high that lie in the half from first to last."""
    if low <= first and last <= high:
        return [(first, last)]
    if last <= low or high <= first:
        return []
    # A half of one number lies in the stretch or out of it, so this one has more.
    middle = (first + last) // 2
    return pieces_in(first, middle, low, high) + pieces_in(middle, last, low, high)


def pieces_of(size, low, high):
    """The halves of the numbers below size that lie in a stretch and in no other half that does, rising."""
    return tuple(pieces_in(0, size, low, high))
