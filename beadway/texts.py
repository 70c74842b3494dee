"""Rows as texts."""

from beadway.checks import is_row, need_row
from beadway.errors import BadText

MOST_SIGNS = 400
FIGURES = "0123456789"


def share_text(one):
    """A share as a text."""
    return f"{one[0]}/{one[1]}"


def row_text(row):
    """A row as a text."""
    return ", ".join([f"{weight} {share_text(place)} {share_text(speed)}" for weight, place, speed in row])


def written(row):
    """The text of a row."""
    need_row(row)
    return row_text(row)


def number_of(word):
    """The whole number that a word tells; None if it tells none."""
    figures = word[1:] if word.startswith("-") else word
    if figures == "" or not all([sign in FIGURES for sign in figures]):
        return None
    return int(word)


def share_of(word):
    """The numbers that a word has between its strokes."""
    return tuple([number_of(part) for part in word.split("/")])


def bead_of(text):
    """The bead that a text tells; None if it isn't three words."""
    words = text.split(" ")
    if len(words) != 3:
        return None
    return (number_of(words[0]), share_of(words[1]), share_of(words[2]))


def read(text):
    """The row that a text tells."""
    # Only a text of few signs is looked into: Python makes no number of very many figures.
    if not isinstance(text, str) or len(text) > MOST_SIGNS:
        raise BadText("a text of a row has at most 400 signs")
    row = [bead_of(part) for part in text.split(", ")]
    # Written again, the row tells needless noughts and the like, which reading it passes over.
    if not is_row(row) or row_text(row) != text:
        raise BadText("there is no row of which this is the text")
    return row
