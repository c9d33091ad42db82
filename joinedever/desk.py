"""A desk that is told rows, does their deeds and answers their asks with texts."""

from joinedever.errors import NoDeed, NoRow
from joinedever.histories import MOST_DEEDS, deed_fault, is_amount, is_name, is_place
from joinedever.joinings import how_long
from joinedever.lightest import lightest
from joinedever.sides import have_two_sides
from joinedever.stands import stand_at, stand_behind
from joinedever.texts import number_of, rows_of
from joinedever.walking import are_joined, part_of, parts_of
from joinedever.ways import way_between

# For the first word of each row the kinds of its other words.
FORMS = {
    "at": ("amount",),
    "come": ("name", "place", "place", "amount"),
    "go": ("name",),
    "joined": ("place", "place"),
    "way": ("place", "place"),
    "parts": (),
    "size": ("place",),
    "forest": (),
    "sides": (),
    "was": ("place", "place", "amount"),
    "long": ("place", "place"),
    "show": (),
}


def value_of(many, kind, word):
    """What a word of a kind tells, or None where it is not of that kind."""
    if kind == "name":
        return word if is_name(word) else None
    number = number_of(word)
    is_right = is_place(many, number) if kind == "place" else is_amount(number)
    return number if is_right else None


def read_row(many, row):
    """The first word of a row and the values of its others, or None where it is no row."""
    if not isinstance(row, str):
        return None
    words = row.split(" ")
    kinds = FORMS.get(words[0])
    if kinds is None or len(words) != len(kinds) + 1:
        return None
    values = tuple([value_of(many, kind, word) for kind, word in zip(kinds, words[1:])])
    if None in values or (words[0] == "come" and values[1] == values[2]):
        return None
    return (words[0], values)


def yes_or_no(truth):
    """The text of a truth."""
    return "yes" if truth else "no"


def names_or(names, otherwise):
    """Names parted by blanks, or another text where there are none."""
    return " ".join(names) if names else otherwise


def tell_joined(many, stand, values):
    """Whether two places are joined."""
    return yes_or_no(are_joined(many, stand, values[0], values[1]))


def tell_way(many, stand, values):
    """The names of a way between two places."""
    way = way_between(many, stand, values[0], values[1])
    return "-" if way is None else names_or(way, "=")


def tell_parts(many, stand, values):
    """How many parts there are."""
    return str(len(parts_of(many, stand)))


def tell_size(many, stand, values):
    """How many places the part of a place has."""
    return str(len(part_of(many, stand, values[0])))


def tell_forest(many, stand, values):
    """The names of the lightest forest."""
    return names_or(lightest(many, stand), "-")


def tell_sides(many, stand, values):
    """Whether all parts have two sides."""
    return "even" if have_two_sides(many, stand) else "odd"


# The asks of what is there now.
TELLERS = {
    "joined": tell_joined,
    "way": tell_way,
    "parts": tell_parts,
    "size": tell_size,
    "forest": tell_forest,
    "sides": tell_sides,
}


class Desk:
    """A number of places, the deeds done so far, and the moment at which the next ones are done."""

    def __init__(self, many):
        self.many = many
        self.deeds = ()
        self.moment = 0

    def history(self):
        """The history of the deeds done so far."""
        return (self.many, self.deeds)

    def stand(self):
        """The ties that are there now."""
        return stand_behind(self.history(), len(self.deeds))

    def move_to(self, moment):
        """Goes on to a moment that is not less."""
        if moment < self.moment:
            raise NoDeed("moment")
        self.moment = moment
        return "ok"

    def do_deed(self, deed):
        """Does a deed of the right form at the moment of the desk."""
        there = {tie[0]: True for tie in self.stand()}
        fault = deed_fault(self.many, self.moment, there, deed)
        if fault is not None:
            raise NoDeed(fault)
        if len(self.deeds) == MOST_DEEDS:
            raise NoDeed("full")
        self.deeds += (deed,)
        return "ok"

    def tell_was(self, one, other, moment):
        """Whether two places were joined at a moment that is not greater than that of the desk."""
        if moment > self.moment:
            raise NoDeed("moment")
        return yes_or_no(are_joined(self.many, stand_at(self.history(), moment), one, other))

    def say(self, row):
        """Does a row or answers it; NoRow of what is none, NoDeed of what can't be done now."""
        told = read_row(self.many, row)
        if told is None:
            raise NoRow("no row that a desk reads")
        word, values = told
        if word == "at":
            return self.move_to(values[0])
        if word in ("come", "go"):
            return self.do_deed((word, self.moment) + values)
        if word == "was":
            return self.tell_was(values[0], values[1], values[2])
        if word == "long":
            return str(how_long(self.history(), values[0], values[1], self.moment))
        if word == "show":
            return " / ".join(rows_of(self.history()))
        teller = TELLERS[word]
        return teller(self.many, self.stand(), values)
