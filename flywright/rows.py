"""Texts by rows of words: what reading a stage and reading a sheet have in common."""

from flywright.errors import BadRow

MOST_FIGURES = 10


def rows_of(text):
    """The rows of a text, one at the least, each a list of its words; refuses what is no text."""
    if not isinstance(text, str):
        raise BadRow(1)
    return [row.split(" ") for row in text.split("\n")]


def read_number(word):
    """The number that a word writes; None where no number is written so."""
    figures = word[1:] if word.startswith("-") else word
    # No number of a text has more figures, and Python itself refuses to read very long ones.
    if not 1 <= len(figures) <= MOST_FIGURES:
        return None
    if not all("0" <= sign <= "9" for sign in figures):
        return None
    if figures[0] == "0" and word != "0":
        return None
    return int(word)
