"""Bases: what is installed on a disk; and sources in which what is installed stands first."""

from parcelindex.checks import number_in
from parcelindex.errors import BadBase, BadText
from parcelindex.lines import Lines, WrongLine
from parcelindex.rows import line_of_row, read_environment, read_requests, read_rows
from parcelindex.sources import Source
from parcelindex.stores import stored_parcels
from parcelindex.tastes import by_rank

BASE = "base"
# No number that is written on a disk is greater.
GREATEST = 10 ** 60


def lines_of_base(base):
    """The lines of the text of a base."""
    lines = [f"base {base.number}"]
    if base.number > 0:
        lines.append(f"environment {base.environment}")
        lines.extend([f"request {request}" for request in base.requests])
        lines.extend([line_of_row(row) for row in base.rows])
    return lines


def read_base(lines, least):
    """The base that is written in the next lines; its number is not below the least one."""
    number = number_in(lines.behind("base"), GREATEST)
    lines.accept(number is not None and number >= least)
    if number == 0:
        return Base(0, None, (), ())
    environment = read_environment(lines, {})
    requests = read_requests(lines, True)
    return Base(number, environment, requests, read_rows(lines))


def whole_base(text, least):
    """The base with exactly this text; its number is not below the least one."""
    lines = Lines(text)
    try:
        base = read_base(lines, least)
        lines.finish()
    except WrongLine as wrong:
        raise BadBase(wrong.line) from None
    return base


class Base:
    """What is installed: the rows of parcels, and the requests and the environment for which they were chosen."""

    def __init__(self, number, environment, requests, rows):
        self._number = number
        self._environment = environment
        self._requests = requests
        self._rows = rows
        self._text = "".join([f"{line}\n" for line in lines_of_base(self)])

    @staticmethod
    def read(text):
        """The base with exactly this text."""
        if not isinstance(text, str):
            raise BadText(text)
        return whole_base(text, 0)

    @classmethod
    def of(cls, disk):
        """The base of a disk."""
        if BASE not in disk:
            return cls(0, None, (), ())
        # The base 0 is told by a disk without this file, so a file with the number 0 is no base.
        return whole_base(disk.text_at(BASE), 1)

    @property
    def number(self):
        """The number of changes that led to it."""
        return self._number

    @property
    def environment(self):
        """The environment; None for the number 0."""
        return self._environment

    @property
    def requests(self):
        """The tuple of the requests; their names are different."""
        return self._requests

    @property
    def rows(self):
        """The tuple of the rows, ascending by name."""
        return self._rows

    def __eq__(self, other):
        return isinstance(other, Base) and self._text == other._text

    def __str__(self):
        return str(self._text)


def rows_on(disk):
    """The rows of the base of a disk; none if it cannot be read."""
    try:
        base = Base.of(disk)
    except BadBase:
        return ()
    return base.rows


def standing_parcels(disk, rows):
    """A dict of the parcels of rows that stand on a disk, by their names."""
    parcels = stored_parcels(disk, rows)
    found = {}
    for row in rows:
        parcel = parcels.get(row[4])
        if parcel is not None and parcel.name == row[0] and parcel.version == row[1]:
            found[row[0]] = parcel
    return found


class Upheld(Source):
    """A source in which some parcels, a dict by their names, stand first in their releases."""

    def __init__(self, parcels, source):
        self._parcels = parcels
        self._source = source

    def names(self):
        """The ascending tuple of the names that have a release."""
        found = {name: True for name in self._source.names()}
        for name in self._parcels:
            found[name] = True
        return tuple(sorted([str(name) for name in found]))

    def versions_of(self, name):
        """The tuple of the versions of a name, the newest first; an empty one for every other object."""
        versions = self._source.versions_of(name)
        parcel = self._upheld(name)
        if parcel is None or parcel.version in versions:
            return versions
        return by_rank(versions + (parcel.version,), True)

    def parcels_of(self, name, version):
        """The tuple of the parcels of a release, in their order."""
        parcel = self._upheld_in(name, version)
        if parcel is None:
            return self._source.parcels_of(name, version)
        others = self._source.parcels_of(name, version) if self._is_in_source(name, version) else ()
        return (parcel,) + tuple([other for other in others if other.digest != parcel.digest])

    def is_withdrawn(self, name, version):
        """Whether a release is withdrawn."""
        if self._upheld_in(name, version) is not None and not self._is_in_source(name, version):
            return False
        return self._source.is_withdrawn(name, version)

    def _upheld(self, name):
        """The parcel of a name that stands first, or None."""
        return self._parcels.get(name) if isinstance(name, str) else None

    def _upheld_in(self, name, version):
        """The parcel of a release that stands first, or None."""
        parcel = self._upheld(name)
        if parcel is None or parcel.version != version:
            return None
        return parcel

    def _is_in_source(self, name, version):
        """Whether the source itself has a release."""
        return version in self._source.versions_of(name)


class Standing(Source):
    """A source in which the parcels that stand on a disk come first; the disk is read whenever it is asked."""

    def __init__(self, disk, source):
        self._disk = disk
        self._source = source

    def names(self):
        """The ascending tuple of the names that have a release."""
        return self._now().names()

    def versions_of(self, name):
        """The tuple of the versions of a name, the newest first; an empty one for every other object."""
        return self._about(name).versions_of(name)

    def parcels_of(self, name, version):
        """The tuple of the parcels of a release, in their order."""
        return self._about(name).parcels_of(name, version)

    def is_withdrawn(self, name, version):
        """Whether a release is withdrawn."""
        return self._about(name).is_withdrawn(name, version)

    def parcel_for(self, name, version, environment):
        """The first parcel of a release whose marker holds in an environment, or None."""
        return self._about(name).parcel_for(name, version, environment)

    def has_name(self, name):
        """Whether there is a release of a name; False for every other object."""
        return self._about(name).has_name(name)

    def release_count(self):
        """The number of releases."""
        return self._now().release_count()

    def _now(self):
        """The source with all that stands on the disk now."""
        return Upheld(standing_parcels(self._disk, rows_on(self._disk)), self._source)

    def _about(self, name):
        """The source with what stands on the disk now for a name."""
        rows = [row for row in rows_on(self._disk) if row[0] == name]
        return Upheld(standing_parcels(self._disk, rows), self._source)
