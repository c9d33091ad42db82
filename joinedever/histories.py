"""Names, deeds, and what makes a row of deeds a history."""

from joinedever.errors import NoHistory
from joinedever.wholes import is_within

MOST_PLACES = 24
MOST_DEEDS = 60
MOST_AMOUNT = 10 ** 9
MOST_LETTERS = 8


def is_name(thing):
    """Whether a thing is a text of one to eight small letters."""
    if not isinstance(thing, str) or not 1 <= len(thing) <= MOST_LETTERS:
        return False
    return all(["a" <= sign <= "z" for sign in thing])


def is_amount(thing):
    """Whether a thing can be a moment or a weight."""
    return is_within(thing, 0, MOST_AMOUNT)


def is_place(many, thing):
    """Whether a thing is the number of one of so many places."""
    return is_within(thing, 0, many - 1)


def is_places(many, thing):
    """Whether a thing is a rising tuple of some of so many places."""
    if not isinstance(thing, tuple) or not all([is_place(many, place) for place in thing]):
        return False
    return all([ahead < place for ahead, place in zip(thing, thing[1:])])


def is_tie(many, four):
    """Whether a tuple of four things is a tie between unlike ones of so many places."""
    name, one, other, weight = four
    if not is_name(name) or not is_amount(weight):
        return False
    return is_place(many, one) and is_place(many, other) and one != other


def is_coming(many, thing):
    """Whether a thing has the form of a deed by which a tie comes."""
    if not isinstance(thing, tuple) or len(thing) != 6:
        return False
    return thing[0] == "come" and is_amount(thing[1]) and is_tie(many, thing[2:])


def is_going(thing):
    """Whether a thing has the form of a deed by which a tie goes."""
    if not isinstance(thing, tuple) or len(thing) != 3:
        return False
    word, moment, name = thing
    return word == "go" and is_amount(moment) and is_name(name)


def has_shape(thing, most):
    """Whether a thing is a pair of a number of places and a tuple of at most so many things."""
    if not isinstance(thing, tuple) or len(thing) != 2:
        return False
    many, rows = thing
    return is_within(many, 1, MOST_PLACES) and isinstance(rows, tuple) and len(rows) <= most


def deed_fault(many, ahead, there, thing):
    """The first word why a thing can't be the next deed, or None.

    ahead is the moment of the deed ahead of it, there tells of each name that came whether it is there.
    """
    if not is_coming(many, thing) and not is_going(thing):
        return "deed"
    if thing[1] < ahead:
        return "moment"
    is_there = there.get(thing[2], False)
    if thing[0] == "come" and is_there:
        return "there"
    if thing[0] == "go" and not is_there:
        return "gone"
    return None


def right_history(thing):
    """True of a history; any other thing is refused with NoHistory."""
    if not has_shape(thing, MOST_DEEDS):
        raise NoHistory(0, "shape")
    many, deeds = thing
    ahead = 0
    there = {}
    for number, deed in enumerate(deeds):
        word = deed_fault(many, ahead, there, deed)
        if word is not None:
            raise NoHistory(number, word)
        ahead = deed[1]
        there[deed[2]] = deed[0] == "come"
    return True
