"""The order of words: by length, then by the alphabet."""

from parcelindex.checks import LETTERS


def place_of_word(word):
    """The place of a word among all words, from 1."""
    place = 0
    for letter in word:
        place = place * 26 + LETTERS.index(letter) + 1
    return place


def word_at(place):
    """The word at this place among all words."""
    word = ""
    while place > 0:
        place, letter = divmod(place - 1, 26)
        word = LETTERS[letter] + word
    return word


def places_of_words(words):
    """The places of all words of a row, in its order."""
    return [place_of_word(word) for word in words]


def sorted_words(words):
    """The tuple of the words of a row, ascending."""
    places = sorted([int(place) for place in places_of_words(words)])
    return tuple([word_at(place) for place in places])
