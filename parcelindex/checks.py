"""Questions about plain values that several modules ask."""

LETTERS = "abcdefghijklmnopqrstuvwxyz"
DIGITS = "0123456789"
# The percent sign, which no text has.
PERCENT = 37


def is_whole(thing):
    """Whether an object is an integer; True and False are none."""
    return isinstance(thing, int) and not isinstance(thing, bool)


def is_count(thing):
    """Whether an object is an integer from 0."""
    return is_whole(thing) and thing >= 0


def is_whole_to(thing, last):
    """Whether an object is an integer from 0 to the last one."""
    return is_count(thing) and thing <= last


def consists_of(text, signs):
    """Whether each character of a text is one of these signs."""
    return all([sign in signs for sign in text])


def is_string_of(thing, signs, most):
    """Whether an object is a string of 1 to so many of these signs."""
    return isinstance(thing, str) and 1 <= len(thing) <= most and consists_of(thing, signs)


def number_in(text, last):
    """The integer from 0 to the last one that is written in a text without needless zeros; otherwise None."""
    if not is_string_of(text, DIGITS, len(str(last))):
        return None
    if text[0] == "0" and text != "0":
        return None
    number = int(text)
    return number if number <= last else None


def is_text_sign(sign):
    """Whether texts may have this character."""
    code = ord(sign)
    return sign == "\n" or 32 <= code <= 126 and code != PERCENT


def is_text(thing):
    """Whether an object is a text, of any length."""
    return isinstance(thing, str) and all([is_text_sign(sign) for sign in thing])


def is_text_to(thing, most):
    """Whether an object is a text of at most so many characters."""
    return isinstance(thing, str) and len(thing) <= most and is_text(thing)


def is_rising(row):
    """Whether each item of a row of numbers or strings is less than the next one."""
    return all([one < other for one, other in zip(row, row[1:])])


def are_pairs(thing, most):
    """Whether an object is a tuple of at most so many tuples of two items."""
    if not isinstance(thing, tuple) or len(thing) > most:
        return False
    return all([isinstance(pair, tuple) and len(pair) == 2 for pair in thing])
