"""Whole numbers, as every module that is handed anything asks for them."""


def is_whole(thing):
    """Whether a thing is a whole number."""
    # Python counts truths among its integers; here they are none.
    return isinstance(thing, int) and not isinstance(thing, bool)


def is_within(thing, low, high):
    """Whether a thing is a whole number from low to high, high too."""
    return is_whole(thing) and low <= thing <= high
