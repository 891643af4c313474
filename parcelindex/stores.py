"""The store of a disk: the texts of parcels at their sums."""

from parcelindex.errors import BadParcel
from parcelindex.parcels import Parcel

STORE = "store/"


def parcel_in(text):
    """The parcel with exactly this text; None if there is none."""
    try:
        return Parcel.read(text)
    except BadParcel:
        return None


def path_of_sum(digest):
    """Where the store has the text of the parcel with this sum."""
    return f"{STORE}{digest}"


def stored_parcel(disk, digest):
    """The parcel with this sum in the store of a disk; None if it is missing there, or its text is another one."""
    path = path_of_sum(digest)
    parcel = parcel_in(disk.text_at(path)) if path in disk else None
    return parcel if parcel is not None and parcel.digest == digest else None


def stored_parcels(disk, rows):
    """A dict of the parcels of rows, by their sums; those that are missing or wrong in the store are left out."""
    found = {}
    for row in rows:
        parcel = stored_parcel(disk, row[4])
        if parcel is not None:
            found[row[4]] = parcel
    return found
