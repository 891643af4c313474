"""Audits: the faults of a disk, told by the disk alone."""

from parcelindex.closing import is_parcel_of_row, unmet_claims, unreached_names
from parcelindex.places import JOURNAL, base_on, doubled_paths, kept_pasts, marks_on, ordered_paths, owned_texts
from parcelindex.places import past_base, path_on_site, rows_in_use, waste_on
from parcelindex.stores import STORE, parcel_in, path_of_sum, stored_parcels


def wrong_in_store(disk):
    """The list of the paths of the store whose texts are not those of parcels with these sums."""
    found = []
    for path in ordered_paths(disk, STORE):
        parcel = parcel_in(disk.text_at(path))
        if parcel is None or path_of_sum(parcel.digest) != path:
            found.append(path)
    return found


def missing_sums(rows, parcels):
    """The ascending list of the sums of rows that are not among parcels."""
    missing = {row[4]: True for row in rows if row[4] not in parcels}
    return sorted([int(digest) for digest in missing])


def wrong_rows(base, parcels):
    """The list of the names of the rows of a base that do not fit their parcels."""
    found = []
    for row in base.rows:
        parcel = parcels.get(row[4])
        if parcel is not None and not is_parcel_of_row(row, parcel, base.environment):
            found.append(row[0])
    return found


def wrong_on_site(disk, owned):
    """The ascending list of the paths of parts whose texts are missing or others on a disk."""
    found = []
    for path in sorted([str(key) for key in owned]):
        place = path_on_site(path)
        if place not in disk or disk.text_at(place) != owned[path]:
            found.append(path)
    return found


def claim_faults(base, parcels):
    """The faults of claims that are not met, ascending, each once."""
    texts = {}
    for owner, requirement in unmet_claims(base.requests, base.environment, parcels):
        told = texts.setdefault(owner, {})
        told[str(requirement)] = True
    found = []
    for owner in sorted([str(key) for key in texts]):
        found.extend([("claim", owner, text) for text in sorted([str(key) for key in texts[owner]])])
    return found


def faults_of_rows(disk, base, parcels):
    """The faults of what a base owns, claims and reaches; its parcels, by their sums, are right."""
    by_name = {row[0]: parcels[row[4]] for row in base.rows}
    found = [("double", path) for path in doubled_paths(base.rows, parcels)]
    found.extend([("site", path) for path in wrong_on_site(disk, owned_texts(base.rows, parcels))])
    found.extend(claim_faults(base, by_name))
    names = unreached_names(base.requests, base.environment, base.rows, by_name)
    return found + [("reach", name) for name in names]


def faults_of_base(disk, base):
    """The faults of the rows of a base and of what follows from them; those of missing parcels are told elsewhere."""
    parcels = stored_parcels(disk, base.rows)
    names = wrong_rows(base, parcels)
    found = [("row", name) for name in names]
    if len(names) > 0 or len(missing_sums(base.rows, parcels)) > 0:
        return found
    return faults_of_rows(disk, base, parcels)


def faults_around(disk, base, marks):
    """All faults of a disk whose base and marks can be read."""
    kept = kept_pasts(disk, base.number, marks)
    wrong = wrong_in_store(disk)
    rows = rows_in_use(disk, base, kept)
    found = [("past", number) for number in kept if past_base(disk, number) is None]
    found.extend([("store", path) for path in wrong])
    found.extend([("missing", digest) for digest in missing_sums(rows, stored_parcels(disk, rows))])
    found.extend(faults_of_base(disk, base))
    found.extend([("waste", path) for path in waste_on(disk, base, marks) if path not in wrong])
    found.extend([("mark", word) for word, number in marks if number != base.number and number not in kept])
    return found


def all_faults(disk):
    """The list of all faults of a disk."""
    if JOURNAL in disk:
        return [("journal",)]
    base = base_on(disk)
    marks = marks_on(disk)
    found = [("base",)] if base is None else []
    if marks is None:
        found.append(("marks",))
    return found if len(found) > 0 else faults_around(disk, base, marks)


def faults(disk):
    """The faults of a disk as it is when the first one is requested."""
    for fault in all_faults(disk):
        yield fault


def is_sound(disk):
    """Whether a disk has no faults."""
    return len(all_faults(disk)) == 0
