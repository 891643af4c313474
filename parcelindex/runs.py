"""Sets of versions as rows of runs.

A run is a pair: the ranks of its first and of its last version. In a row, a tuple, the runs ascend, and between two
of them at least one rank is missing, so each set is written in exactly one way.
"""

from parcelindex.versions import Version


def span(first, last):
    """The row of all ranks from the first to the last one; an empty row if there are none."""
    if first > last:
        return ()
    return ((first, last),)


def united(runs):
    """The row of all ranks in these runs, which may stand in any order and overlap."""
    ends = {}
    for first, last in runs:
        if first not in ends or ends[first] < last:
            ends[first] = last
    row = []
    for first in sorted([int(key) for key in ends]):
        if not row or row[-1][1] + 1 < first:
            row.append((first, ends[first]))
        elif row[-1][1] < ends[first]:
            row[-1] = (row[-1][0], ends[first])
    return tuple(row)


def gaps(row):
    """The row of all ranks that are not in this row."""
    found = []
    start = 0
    for first, last in row:
        if start < first:
            found.append((start, first - 1))
        start = last + 1
    if start <= Version.LAST:
        found.append((start, Version.LAST))
    return tuple(found)


def common(one, other):
    """The row of the ranks that are in both rows: in the gaps of neither."""
    return gaps(united(gaps(one) + gaps(other)))


def without(one, other):
    """The row of the ranks that are in one row, but not in the other."""
    return gaps(united(gaps(one) + other))
