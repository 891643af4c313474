"""Rows of locks and bases: tuples of a name, a version, the extras that are claimed, a label and a sum."""

from parcelindex.checks import is_rising, number_in
from parcelindex.environments import written_environment
from parcelindex.names import is_name, is_word
from parcelindex.parcels import MODULUS
from parcelindex.requirements import written_requirement
from parcelindex.versions import written_version
from parcelindex.words import places_of_words

# It stands for extras where there are none.
NO_EXTRAS = "-"


def row_of_parcel(extras, parcel):
    """The row of a parcel of which these extras are claimed."""
    return parcel.name, parcel.version, extras, parcel.label, parcel.digest


def rows_of_choice(choice, environment):
    """The rows of the names that a choice reaches in an environment."""
    return tuple([row_of_parcel(extras, parcel) for _, _, extras, parcel in choice.rows_in(environment)])


def text_of_extras(extras):
    """The text of the extras of a row."""
    return ",".join(extras) if extras else NO_EXTRAS


def line_of_row(row):
    """The line of a row."""
    name, version, extras, label, digest = row
    return f"row {name} {version} {text_of_extras(extras)} {label} {digest}"


def extras_in(text):
    """The extras in a row with this text; None for a wrong one."""
    if text == NO_EXTRAS:
        return ()
    words = text.split(",")
    if not all([is_word(word) for word in words]) or not is_rising(places_of_words(words)):
        return None
    return tuple(words)


def row_in(text):
    """The row that is written behind the first word of its line; None if it is wrong."""
    parts = text.split(" ")
    if len(parts) != 5:
        return None
    name, digits, words, label, number = parts
    version = written_version(digits)
    extras = extras_in(words)
    digest = number_in(number, MODULUS - 1)
    if not is_name(name) or not is_word(label) or version is None or extras is None or digest is None:
        return None
    return name, version, extras, label, digest


def read_rows(lines):
    """The rows in all next lines that begin like rows."""
    found = []
    last = ""
    while lines.begins("row"):
        row = row_in(lines.behind("row"))
        lines.accept(row is not None and row[0] > last)
        found.append(row)
        last = row[0]
    return tuple(found)


def read_requests(lines, different):
    """The requests in all next lines that begin like requests; their names may have to be different."""
    found = []
    names = {}
    while lines.begins("request"):
        request = written_requirement(lines.behind("request"))
        lines.accept(request is not None and not (different and request.name in names))
        found.append(request)
        names[request.name] = True
    return tuple(found)


def read_environment(lines, others):
    """The environment in the next line, which is none of those with the other texts."""
    environment = written_environment(lines.behind("environment"))
    lines.accept(environment is not None and str(environment) not in others)
    return environment
