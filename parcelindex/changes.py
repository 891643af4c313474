"""Changes from one base to the next, and what finishes or undoes them: all acts, in their order."""

from parcelindex.bases import BASE
from parcelindex.errors import Foreign, NoRoom, PathClash
from parcelindex.locks import differences
from parcelindex.places import JOURNAL, doubled_paths, marks_on, owned_texts, path_of_past, path_on_site
from parcelindex.places import text_of_journal, waste_on
from parcelindex.rows import line_of_row
from parcelindex.stores import path_of_sum, stored_parcels


def check_room(disk, wanted):
    """Refuses what would need more than the room of a disk."""
    if disk.room is not None and wanted > disk.room:
        raise NoRoom(wanted)


def more_than(text, old):
    """How many characters a text has more than the old one; None stands for no text."""
    before = 0 if old is None else len(old)
    behind = 0 if text is None else len(text)
    return max(0, behind - before)


def put(disk, path, text):
    """Writes a text, unless it is there already."""
    if path not in disk or disk.text_at(path) != text:
        disk.write(path, text)


def put_base(disk, base):
    """Writes a base, unless it is there already; the base 0 has no text."""
    if base.number > 0:
        put(disk, BASE, str(base))
    elif BASE in disk:
        disk.remove(BASE)


def put_site(disk, front, back):
    """Leads the site from what is owned in front of a change to what is owned behind it: two dicts of texts."""
    for path in sorted([str(key) for key in {**front, **back}]):
        place = path_on_site(path)
        if path in back:
            put(disk, place, back[path])
        elif place in disk:
            disk.remove(place)


def owned_from_store(disk, base):
    """A dict of the texts of all parts of a base by their paths."""
    return owned_texts(base.rows, stored_parcels(disk, base.rows))


def clean(disk, base):
    """Removes all from past and store that this base does not keep."""
    waste = waste_on(disk, base, marks_on(disk))
    for path in waste:
        disk.remove(path)


def finish(disk, old, new):
    """Finishes the change that the journal tells."""
    put(disk, path_of_past(old.number), str(old))
    put_site(disk, owned_from_store(disk, old), owned_from_store(disk, new))
    put_base(disk, new)
    disk.remove(JOURNAL)
    clean(disk, new)


def undo(disk, old, new):
    """Undoes the change that the journal tells."""
    put_site(disk, owned_from_store(disk, new), owned_from_store(disk, old))
    put_base(disk, old)
    disk.remove(JOURNAL)
    clean(disk, old)


def texts_of_requests(base):
    """The list of the texts of the requests of a base."""
    return [str(request) for request in base.requests]


def lines_of_rows(base):
    """The list of the lines of the rows of a base."""
    return [line_of_row(row) for row in base.rows]


class Change:
    """What leads a sound disk from its base to the next one, whose parcels are given by their sums."""

    def __init__(self, disk, old, new, parcels):
        self._disk = disk
        self._old = old
        self._new = new
        self._parcels = parcels
        self._front = owned_from_store(disk, old)
        self._back = owned_texts(new.rows, parcels)

    def told(self):
        """The differences of the rows."""
        return differences(self._old.rows, self._new.rows)

    def is_empty(self):
        """Whether nothing is to be done."""
        old = self._old
        new = self._new
        if texts_of_requests(old) != texts_of_requests(new) or lines_of_rows(old) != lines_of_rows(new):
            return False
        return len(new.rows) == 0 or old.environment == new.environment

    def check(self):
        """Refuses a change that cannot be made."""
        clashing = doubled_paths(self._new.rows, self._parcels)
        if clashing:
            raise PathClash(clashing[0])
        for path in sorted([str(key) for key in self._back]):
            if path not in self._front and path_on_site(path) in self._disk:
                raise Foreign(path)
        check_room(self._disk, self._need())

    def make(self):
        """Makes all acts."""
        texts = self._new_in_store()
        for path, text in texts:
            self._disk.write(path, text)
        self._disk.write(JOURNAL, text_of_journal(self._old, self._new))
        finish(self._disk, self._old, self._new)

    def _new_in_store(self):
        """The list of the paths and texts that the store does not have, ascending by sums."""
        sums = {row[4]: True for row in self._new.rows}
        pairs = [(path_of_sum(digest), self._parcels[digest].text) for digest in sorted([int(key) for key in sums])]
        return [(path, text) for path, text in pairs if path not in self._disk]

    def _need(self):
        """How much all texts have together at most at any moment of the change and its recoveries."""
        old = self._old
        new = self._new
        need = self._disk.used + sum([len(text) for _, text in self._new_in_store()])
        need = need + len(text_of_journal(old, new)) + len(str(old))
        need = need + more_than(str(new), None if old.number == 0 else str(old))
        paths = {**self._front, **self._back}
        return need + sum([more_than(self._back.get(path), self._front.get(path)) for path in paths])


def made(change):
    """Makes a change that can be made, unless nothing is to be done; the differences."""
    if not change.is_empty():
        change.check()
        change.make()
    return change.told()


def write_all(disk, texts):
    """Writes texts, pairs of a path and a text, if the disk has room for all of them."""
    wanted = disk.used
    for path, text in texts:
        wanted = wanted + more_than(text, disk.text_at(path) if path in disk else None)
    check_room(disk, wanted)
    for path, text in texts:
        disk.write(path, text)
