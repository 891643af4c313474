"""Requirements: a name, extras, a range and a marker."""

from parcelindex.checks import DIGITS, LETTERS, is_rising
from parcelindex.errors import BadMarker, BadName, BadRange, BadRequirement
from parcelindex.expressions import expression_in
from parcelindex.markers import Marker, marker_of
from parcelindex.names import is_name, is_word
from parcelindex.ranges import Range, range_of, row_of_text
from parcelindex.words import places_of_words, sorted_words

# Behind it stands the marker; in front of it there are no spaces.
CUT = "; "


def name_in_front(text):
    """The letters, digits and hyphens with which a text begins."""
    signs = LETTERS + DIGITS + "-"
    end = 0
    while end < len(text) and text[end] in signs:
        end += 1
    return text[:end]


def split_extras(text):
    """The words in the brackets with which a text begins, and the text behind them; None if they are wrong."""
    if not text.startswith("["):
        return (), text
    inside, closed, rest = text[1:].partition("]")
    words = inside.split(",")
    if closed == "" or not all([is_word(word) for word in words]) or not is_rising(places_of_words(words)):
        return None
    return tuple(words), rest


def row_of_rest(text):
    """The row of the range that stands behind the name and the extras; None for a wrong one."""
    if text == "none":
        return None
    return row_of_text("*" if text == "" else text)


def parts_in(thing):
    """The name, the extras, the row of the range and the expression of a requirement text; None for other objects."""
    if not isinstance(thing, str):
        return None
    front, cut, back = thing.partition(CUT)
    name = name_in_front(front)
    found = split_extras(front[len(name):])
    steps = expression_in("always" if cut == "" else back)
    if not is_name(name) or found is None or steps is None:
        return None
    extras, rest = found
    row = row_of_rest(rest)
    return None if row is None else (name, extras, row, steps)


def text_of_range(versions):
    """The text of a range behind a name: the normal one, but for every version and for none."""
    if not versions:
        return "<0a0"
    text = str(versions)
    return "" if text == "*" else text


def text_of_parts(name, extras, versions, marker):
    """The text of the requirement with these parts."""
    words = ",".join(extras)
    brackets = f"[{words}]" if extras else ""
    front = f"{name}{brackets}{text_of_range(versions)}"
    behind = str(marker)
    return front if behind == "always" else f"{front}{CUT}{behind}"


def are_extras(thing):
    """Whether an object is a tuple of different words."""
    if not isinstance(thing, tuple) or not all([is_word(word) for word in thing]):
        return False
    return is_rising(places_of_words(sorted_words(thing)))


def written_requirement(text):
    """The requirement that gives itself exactly this text; None if there is none."""
    if parts_in(text) is None:
        return None
    made = Requirement(text)
    return made if str(made) == text else None


class Requirement:
    """What a request, a parcel or an extra claims."""

    def __init__(self, text):
        parts = parts_in(text)
        if parts is None:
            raise BadRequirement(text)
        name, extras, row, steps = parts
        self._name = name
        self._extras = extras
        self._versions = range_of(row)
        self._marker = marker_of(steps)
        self._text = text_of_parts(name, extras, self._versions, self._marker)

    @classmethod
    def of(cls, name, *, extras=(), versions=None, marker=None):
        """The requirement with these parts; None stands for every version and for always."""
        if not is_name(name):
            raise BadName(name)
        if not are_extras(extras):
            raise BadName(extras)
        if versions is not None and not isinstance(versions, Range):
            raise BadRange(versions)
        if marker is not None and not isinstance(marker, Marker):
            raise BadMarker(marker)
        every = Range() if versions is None else versions
        always = Marker() if marker is None else marker
        return cls(text_of_parts(name, sorted_words(extras), every, always))

    @property
    def name(self):
        """The name that is claimed."""
        return self._name

    @property
    def extras(self):
        """The ascending tuple of the extras that are claimed."""
        return self._extras

    @property
    def versions(self):
        """The range in which the version must be."""
        return self._versions

    @property
    def marker(self):
        """In which environments it is claimed."""
        return self._marker

    def __eq__(self, other):
        if not isinstance(other, Requirement):
            return False
        if self._name != other._name or self._extras != other._extras:
            return False
        return self._versions == other._versions and self._marker == other._marker

    def __str__(self):
        return str(self._text)
