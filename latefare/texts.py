"""Texts: the words of a row, and the numbers and names among them."""

from latefare.errors import NoRow

FIGURES = "0123456789"
MOST_FIGURES = 7
LETTERS = "abcdefghijklmnopqrstuvwxyz"
MOST_LETTERS = 8


def read_words(row):
    # Parted at each blank, a blank too many, or no signs at all, leaves a word without signs.
    words = row.split(" ")
    if "" in words:
        raise NoRow("a row is words parted by single blanks")
    return words


def read_number(word):
    if not is_made_of(word, FIGURES, MOST_FIGURES) or (word[0] == "0" and word != "0"):
        raise NoRow(f"{word!r} is no number")
    return int(word)


def read_name(word):
    if not is_made_of(word, LETTERS, MOST_LETTERS):
        raise NoRow(f"{word!r} is no name")
    return word


def is_made_of(word, signs, most):
    return 1 <= len(word) <= most and all([sign in signs for sign in word])
