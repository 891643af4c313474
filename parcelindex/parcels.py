"""Parcels: their parts, their texts and their sums."""

from parcelindex.checks import are_pairs, is_rising, is_text_to, number_in
from parcelindex.errors import BadMarker, BadName, BadParcel, BadRequirement, BadText, BadVersion, NoName
from parcelindex.lines import Lines, WrongLine
from parcelindex.markers import Marker, written_marker
from parcelindex.names import is_name, is_path, is_word
from parcelindex.requirements import Requirement, written_requirement
from parcelindex.versions import Version, written_version
from parcelindex.words import place_of_word, places_of_words

MOST_NEEDS = 8
MOST_EXTRAS = 4
MOST_OF_EXTRA = 4
MOST_PARTS = 6
LONGEST = 300
FACTOR = 1000003
MODULUS = 2305843009213693951


def are_requirements(thing, most):
    """Whether an object is a tuple of at most so many requirements."""
    if not isinstance(thing, tuple) or len(thing) > most:
        return False
    return all([isinstance(one, Requirement) for one in thing])


def are_offers(thing):
    """Whether an object can be the extras of a parcel."""
    if not are_pairs(thing, MOST_EXTRAS):
        return False
    if not all([is_word(word) and are_requirements(row, MOST_OF_EXTRA) for word, row in thing]):
        return False
    return is_rising(places_of_words([word for word, _ in thing]))


def are_parts(thing):
    """Whether an object can be the parts of a parcel."""
    if not are_pairs(thing, MOST_PARTS):
        return False
    if not all([is_path(path) and is_text_to(text, LONGEST) for path, text in thing]):
        return False
    return is_rising([path for path, _ in thing])


def lines_of_parcel(parcel):
    """The lines of the text of a parcel; those of the text of a part are one item together."""
    lines = [f"parcel {parcel.name} {parcel.version} {parcel.label}", f"for {parcel.marker}"]
    lines.extend([f"need {need}" for need in parcel.needs])
    for word, row in parcel.extras:
        lines.append(f"extra {word}")
        lines.extend([f"with {requirement}" for requirement in row])
    for path, text in parcel.parts:
        lines.append(f"file {path} {len(text)}")
        lines.append(text)
    return lines


def sum_of(text):
    """The sum of a text."""
    number = 7
    for sign in text:
        number = (number * FACTOR + ord(sign)) % MODULUS
    return number


def read_head(lines):
    """The name, the version and the label of the parcel in the first line."""
    words = lines.behind("parcel").split(" ")
    version = written_version(words[1]) if len(words) == 3 else None
    lines.accept(version is not None and is_name(words[0]) and is_word(words[2]))
    return words[0], version, words[2]


def read_marker(lines):
    """The marker in the second line."""
    marker = written_marker(lines.behind("for"))
    lines.accept(marker is not None)
    return marker


def read_requirements(lines, word, most):
    """The requirements in all lines that begin with this word and follow one another."""
    found = []
    while lines.begins(word):
        requirement = written_requirement(lines.behind(word))
        lines.accept(requirement is not None and len(found) < most)
        found.append(requirement)
    return tuple(found)


def read_extras(lines):
    """The extras with their requirements."""
    found = []
    last = 0
    while lines.begins("extra"):
        word = lines.behind("extra")
        lines.accept(is_word(word) and place_of_word(word) > last and len(found) < MOST_EXTRAS)
        found.append((word, read_requirements(lines, "with", MOST_OF_EXTRA)))
        last = place_of_word(word)
    return tuple(found)


def read_parts(lines):
    """The parts with their texts."""
    found = []
    last = ""
    while lines.begins("file"):
        path, _, digits = lines.behind("file").partition(" ")
        length = number_in(digits, LONGEST)
        if not is_path(path) or path <= last or length is None or len(found) == MOST_PARTS:
            lines.refuse()
        found.append((path, lines.accept_body(length)))
        last = path
    return tuple(found)


def read_parcel(lines):
    """The parcel that is written in all these lines."""
    name, version, label = read_head(lines)
    marker = read_marker(lines)
    needs = read_requirements(lines, "need", MOST_NEEDS)
    extras = read_extras(lines)
    parts = read_parts(lines)
    lines.finish()
    return Parcel(name, version, label, marker=marker, needs=needs, extras=extras, parts=parts)


class Parcel:
    """Files of a named thing in a version, with what they need."""

    def __init__(self, name, version, label="all", *, marker=None, needs=(), extras=(), parts=()):
        if not is_name(name):
            raise BadName(name)
        if not isinstance(version, Version):
            raise BadVersion(version)
        if not is_word(label):
            raise BadName(label)
        if marker is not None and not isinstance(marker, Marker):
            raise BadMarker(marker)
        if not are_requirements(needs, MOST_NEEDS):
            raise BadRequirement(needs)
        if not are_offers(extras):
            raise BadRequirement(extras)
        if not are_parts(parts):
            raise BadText(parts)
        self._name = name
        self._version = version
        self._label = label
        self._marker = Marker() if marker is None else marker
        self._needs = needs
        self._extras = extras
        self._parts = parts
        self._text = "".join([f"{line}\n" for line in lines_of_parcel(self)])
        self._digest = sum_of(self._text)

    @staticmethod
    def read(text):
        """The parcel with exactly this text."""
        if not isinstance(text, str):
            raise BadText(text)
        try:
            return read_parcel(Lines(text))
        except WrongLine as wrong:
            raise BadParcel(wrong.line) from None

    def offers(self, word):
        """The tuple of the requirements of an extra."""
        for offered, row in self._extras:
            if isinstance(word, str) and offered == word:
                return row
        raise NoName(word)

    @property
    def name(self):
        """The name."""
        return self._name

    @property
    def version(self):
        """The version."""
        return self._version

    @property
    def label(self):
        """The label, which no other parcel of its release has."""
        return self._label

    @property
    def marker(self):
        """In which environments the parcel can be used."""
        return self._marker

    @property
    def needs(self):
        """The tuple of the requirements that it always claims."""
        return self._needs

    @property
    def extras(self):
        """The ascending tuple of the pairs of an extra and the tuple of its requirements."""
        return self._extras

    @property
    def parts(self):
        """The ascending tuple of the pairs of a path and a text."""
        return self._parts

    @property
    def text(self):
        """The text that tells all of it."""
        return self._text

    @property
    def digest(self):
        """The sum of the text."""
        return self._digest

    def __eq__(self, other):
        return isinstance(other, Parcel) and self._text == other._text
