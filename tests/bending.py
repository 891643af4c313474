"""Texts of lines that are bent in all ways: signs and lines put in, left out, exchanged, doubled and cut off."""

import random

import model

DIGITS = "9" * 5000
SIGNS = "a1 -\n" + chr(37)


def cut_off(text):
    """All beginnings and all ends of a text."""
    for at in range(len(text) + 1):
        yield text[:at]
        yield text[at:]


def bent_signs(text, signs=SIGNS):
    """The texts with one sign changed."""
    yield from model.neighbors(text, signs)


def bent_lines(text, lines):
    """The texts with one line put in, left out, doubled or changed, and with two exchanged."""
    row = text.split("\n")[:-1]
    for at in range(len(row) + 1):
        for line in lines:
            yield "\n".join(row[:at] + [line] + row[at:]) + "\n"
            yield "\n".join(row[:at] + [line] + row[at + 1:]) + "\n"
            yield "\n".join(row[:at] + [line])
        yield "\n".join(row[:at] + row[at + 1:]) + "\n"
        yield "\n".join(row[:at] + row[at:at + 1] * 2 + row[at + 1:]) + "\n"
        yield "\n".join(row[:at]) + "\n"
        yield "\n".join(row[:at])
        for other in range(at + 1, len(row)):
            swapped = list(row)
            swapped[at], swapped[other] = swapped[other], swapped[at]
            yield "\n".join(swapped) + "\n"


def bent_often(texts, pieces, many, seed):
    """So many of these texts, each with two or three changes."""
    chance = random.Random(seed)
    for _ in range(many):
        text = chance.choice(texts)
        for _ in range(chance.choice((2, 2, 3))):
            at = chance.randrange(len(text) + 1)
            text = text[:at] + chance.choice(pieces) + text[at + chance.randint(0, 3):]
        yield text
