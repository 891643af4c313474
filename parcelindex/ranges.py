"""Ranges of versions: their texts, and what sets can do."""

from parcelindex.errors import BadRange, BadVersion
from parcelindex.runs import common, gaps, span, united, without
from parcelindex.versions import FINAL, Version, parts_of_text, rank_of, text_at

# Those with two characters stand first, for others begin like them.
SIGNS = ("==", "!=", "<=", ">=", "~=", "<", ">")


def sign_of(comparison):
    """The sign with which a comparison begins; the empty text if there is none."""
    for sign in SIGNS:
        if comparison.startswith(sign):
            return sign
    return ""


def row_beside(sign, rank):
    """The row of the ranks that compare so with this one."""
    if sign == "==":
        return span(rank, rank)
    if sign == "!=":
        return gaps(span(rank, rank))
    if sign == "<":
        return span(0, rank - 1)
    if sign == "<=":
        return span(0, rank)
    if sign == ">":
        return span(rank + 1, Version.LAST)
    return span(rank, Version.LAST)


def row_alike(numbers, stage):
    """The row for the sign ~= in front of these written numbers; None where it may not stand."""
    if len(numbers) < 2 or stage != FINAL:
        return None
    greatest = numbers[:-1] + (999, 999, 999)
    return span(rank_of(numbers, FINAL), rank_of(greatest, FINAL))


def row_of_comparison(comparison):
    """The row of a comparison, or None for a wrong one."""
    sign = sign_of(comparison)
    parts = parts_of_text(comparison[len(sign):])
    if sign == "" or parts is None:
        return None
    numbers, stage = parts
    if sign == "~=":
        return row_alike(numbers, stage)
    return row_beside(sign, rank_of(numbers, stage))


def row_of_side(side):
    """The row of comparisons joined by commas, or None: the ranks that no comparison leaves out."""
    missing = []
    for comparison in side.split(","):
        row = row_of_comparison(comparison)
        if row is None:
            return None
        missing.extend(gaps(row))
    return gaps(united(missing))


def row_of_text(thing):
    """The row of a range text; None for every other object."""
    if not isinstance(thing, str):
        return None
    if thing == "*":
        return span(0, Version.LAST)
    if thing == "none":
        return ()
    found = []
    for side in thing.split("|"):
        row = row_of_side(side)
        if row is None:
            return None
        found.extend(row)
    return united(found)


def text_of_bound(sign, inside, outside):
    """The shorter text of a bound: with the rank inside, or with its neighbor outside."""
    near, far = text_at(inside), text_at(outside)
    if len(far) < len(near):
        return f"{sign}{far}"
    return f"{sign}={near}"


def text_of_run(first, last):
    """The normal text of a run that is not the whole range."""
    if first == last:
        return f"=={text_at(first)}"
    bounds = []
    if first > 0:
        bounds.append(text_of_bound(">", first, first - 1))
    if last < Version.LAST:
        bounds.append(text_of_bound("<", last, last + 1))
    return ",".join(bounds)


def range_of(row):
    """The range with this row."""
    made = Range()
    made._runs = row
    return made


class Range:
    """A set of versions, kept as its row of runs."""

    def __init__(self, text="*"):
        row = row_of_text(text)
        if row is None:
            raise BadRange(text)
        self._runs = row

    @classmethod
    def between(cls, first, last):
        """The range of the versions from the first to the last one."""
        if not isinstance(first, Version):
            raise BadVersion(first)
        if not isinstance(last, Version):
            raise BadVersion(last)
        return range_of(span(first.rank, last.rank))

    @property
    def runs(self):
        """The tuple of the pairs of the first and the last rank of each run, ascending."""
        return self._runs

    @property
    def pin(self):
        """The version, if there is exactly one; otherwise None."""
        if len(self._runs) != 1:
            return None
        first, last = self._runs[0]
        return Version.at(first) if first == last else None

    def others(self):
        """The range of all other versions."""
        return range_of(gaps(self._runs))

    def __and__(self, other):
        return range_of(common(self._runs, other._runs))

    def __or__(self, other):
        return range_of(united(self._runs + other._runs))

    def __sub__(self, other):
        return range_of(without(self._runs, other._runs))

    def __contains__(self, version):
        if not isinstance(version, Version):
            return False
        return any([first <= version.rank <= last for first, last in self._runs])

    def __eq__(self, other):
        return isinstance(other, Range) and self._runs == other._runs

    def __le__(self, other):
        if not isinstance(other, Range):
            return NotImplemented
        return not without(self._runs, other._runs)

    def __bool__(self):
        return bool(self._runs)

    def __str__(self):
        if not self._runs:
            return "none"
        if not gaps(self._runs):
            return "*"
        return "|".join([text_of_run(first, last) for first, last in self._runs])
