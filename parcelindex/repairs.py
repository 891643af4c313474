"""Recoveries and repairs: what of a disk is wrong for them, and what they write."""

from parcelindex.audits import wrong_on_site
from parcelindex.bases import BASE
from parcelindex.changes import clean, finish, undo, write_all
from parcelindex.errors import Damaged, NoRelease, NoRepair
from parcelindex.places import JOURNAL, MARKS, base_on, journal_on, kept_pasts, marks_on, owned_texts, path_on_site
from parcelindex.places import rows_in_use
from parcelindex.stores import path_of_sum, stored_parcels


def unreadable(disk, with_base):
    """The list of those of the paths of the base, if it counts, the journal and the marks that cannot be read."""
    found = []
    if with_base and base_on(disk) is None:
        found.append(BASE)
    if JOURNAL in disk and journal_on(disk) is None:
        found.append(JOURNAL)
    if marks_on(disk) is None:
        found.append(MARKS)
    return found


def paths_of_missing(rows, parcels):
    """The list of the different paths of the store for those of rows whose parcels lack."""
    found = {path_of_sum(row[4]): True for row in rows if row[4] not in parcels}
    return list(found)


def wrong_for_recovery(disk):
    """The ascending tuple of the paths of a disk that are wrong for a recovery."""
    found = unreadable(disk, JOURNAL not in disk)
    journal = journal_on(disk)
    if journal is not None:
        old, new = journal
        rows = old.rows + new.rows
        found.extend(paths_of_missing(rows, stored_parcels(disk, rows)))
    return tuple(sorted([str(path) for path in found]))


def recovered(disk, way):
    """Recovers a disk in a way; the base then."""
    wrong = wrong_for_recovery(disk)
    if wrong:
        raise Damaged(wrong)
    journal = journal_on(disk)
    if journal is None:
        base = base_on(disk)
        clean(disk, base)
        return base
    old, new = journal
    if way == "finish":
        finish(disk, old, new)
        return new
    undo(disk, old, new)
    return old


def rows_to_repair(disk, base):
    """The list of the rows of a base, of the older bases that it keeps, and of the journal."""
    rows = rows_in_use(disk, base, kept_pasts(disk, base.number, marks_on(disk)))
    journal = journal_on(disk)
    if journal is not None:
        old, new = journal
        rows.extend(old.rows + new.rows)
    return rows


def parcel_from(source, row):
    """The parcel of a source with the sum of a row, from the row's release; None if there is none."""
    try:
        parcels = source.parcels_of(row[0], row[1])
    except NoRelease:
        return None
    for parcel in parcels:
        if parcel.digest == row[4]:
            return parcel
    return None


def parcels_to_store(source, rows, parcels):
    """A dict of those parcels of rows that lack among parcels, by their sums, ascending."""
    lacking = {}
    for row in rows:
        if row[4] not in parcels and lacking.get(row[4]) is None:
            lacking[row[4]] = parcel_from(source, row)
    found = {}
    for digest in sorted([int(key) for key in lacking]):
        if lacking[digest] is None:
            raise NoRepair(digest)
        found[digest] = lacking[digest]
    return found


def texts_to_repair(disk, source):
    """The list of the pairs of a path and a text that a repair writes, in its order."""
    base = base_on(disk)
    rows = rows_to_repair(disk, base)
    right = stored_parcels(disk, rows)
    new = parcels_to_store(source, rows, right)
    found = [(path_of_sum(digest), new[digest].text) for digest in new]
    if JOURNAL not in disk:
        owned = owned_texts(base.rows, {**right, **new})
        found.extend([(path_on_site(path), owned[path]) for path in wrong_on_site(disk, owned)])
    return found


def repaired(disk, source):
    """Repairs the store and the site of a disk; the tuple of the paths that were written."""
    wrong = unreadable(disk, True)
    if wrong:
        raise Damaged(tuple(wrong))
    texts = texts_to_repair(disk, source)
    write_all(disk, texts)
    return tuple([path for path, _ in texts])
