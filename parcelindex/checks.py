"""Questions about plain values that several modules ask."""

LETTERS = "abcdefghijklmnopqrstuvwxyz"
DIGITS = "0123456789"


def is_whole(thing):
    """Whether an object is an integer; True and False are none."""
    return isinstance(thing, int) and not isinstance(thing, bool)


def is_whole_to(thing, last):
    """Whether an object is an integer from 0 to the last one."""
    return is_whole(thing) and 0 <= thing <= last


def consists_of(text, signs):
    """Whether each character of a text is one of these signs."""
    return all([sign in signs for sign in text])


def is_string_of(thing, signs, most):
    """Whether an object is a string of 1 to so many of these signs."""
    return isinstance(thing, str) and 1 <= len(thing) <= most and consists_of(thing, signs)
