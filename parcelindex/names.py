"""Names, words and paths."""

from parcelindex.checks import DIGITS, LETTERS, is_string_of


def is_name(thing):
    """Whether an object is a name: 1 to 20 letters, digits and hyphens, a letter first."""
    return is_string_of(thing, LETTERS + DIGITS + "-", 20) and thing[0] in LETTERS


def is_word(thing):
    """Whether an object is a word: 1 to 12 letters."""
    return is_string_of(thing, LETTERS, 12)


def is_path(thing):
    """Whether an object is a path: 1 to 60 letters, digits, points, hyphens and slashes."""
    return is_string_of(thing, LETTERS + DIGITS + ".-/", 60)
