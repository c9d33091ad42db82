"""Histories written in rows, and read again."""

from joinedever.errors import NoHistory, NoText
from joinedever.histories import MOST_DEEDS, MOST_PLACES, right_history
from joinedever.wholes import is_within

# No number that is written has more figures than the greatest moment, 10 ** 9.
MOST_FIGURES = 10


def rows_of(history):
    """The rows of a history, that of its places first."""
    many, deeds = history
    rows = [f"places {many}"]
    for deed in deeds:
        # The moment is written ahead of the word.
        rows.append(" ".join([str(part) for part in (deed[1], deed[0]) + deed[2:]]))
    return rows


def show_history(history):
    """The text of a history."""
    return "\n".join(rows_of(history))


def number_of(word):
    """The number that a word tells in figures without noughts ahead, or None."""
    if not 1 <= len(word) <= MOST_FIGURES or not all(["0" <= sign <= "9" for sign in word]):
        return None
    number = int(word)
    return number if str(number) == word else None


def places_in(row):
    """How many places a first row tells of, or None."""
    words = row.split(" ")
    if len(words) != 2 or words[0] != "places":
        return None
    many = number_of(words[1])
    return many if is_within(many, 1, MOST_PLACES) else None


def deed_in(row):
    """The deed that a row tells of, None in place of what is no number; None where it is no deed's row at all."""
    words = row.split(" ")
    if len(words) == 6 and words[1] == "come":
        one, other, weight = [number_of(word) for word in words[3:]]
        return ("come", number_of(words[0]), words[2], one, other, weight)
    if len(words) == 3 and words[1] == "go":
        return ("go", number_of(words[0]), words[2])
    return None


def read_history(text):
    """The history that a text tells of; NoText of any other thing."""
    if not isinstance(text, str):
        raise NoText(0)
    rows = text.split("\n")
    many = places_in(rows[0])
    if many is None:
        raise NoText(0)
    history = (many, tuple([deed_in(row) for row in rows[1:MOST_DEEDS + 1]]))
    try:
        right_history(history)
    except NoHistory as fault:
        # The first row tells of the places, so the first deed is in row 1.
        raise NoText(fault.number + 1) from None
    if len(rows) > MOST_DEEDS + 1:
        raise NoText(MOST_DEEDS + 1)
    return history
