"""Installers: they put the files of parcels on a disk, and keep nothing in memory."""

from parcelindex.audits import all_faults
from parcelindex.bases import Base, Upheld, standing_parcels
from parcelindex.changes import Change, clean, made, write_all
from parcelindex.checks import is_count
from parcelindex.choosing import choose
from parcelindex.environments import Environment
from parcelindex.errors import BadEnvironment, BadName, BadRequirement, BadText, BadWay, Damaged, NoMark, NoName
from parcelindex.errors import NoParcel, NoPast, NoRelease, NotClosed, Pending, Taken, WrongSum
from parcelindex.locks import Lock, is_closed
from parcelindex.names import is_word
from parcelindex.places import MARKS, PAST, journal_on, marks_on, numbers_behind, past_base, text_of_marks
from parcelindex.repairs import parcel_from, recovered, repaired
from parcelindex.requirements import Requirement
from parcelindex.rows import rows_of_choice
from parcelindex.steps import asked_by, check_steps
from parcelindex.stores import stored_parcel, stored_parcels
from parcelindex.tastes import Keeping
from parcelindex.trees import chain_to, tree_rows
from parcelindex.words import sorted_words

WAYS = ("finish", "undo")


def check_different(requests):
    """Refuses requests of which two have one name."""
    names = {request.name: True for request in requests}
    if len(names) < len(requests):
        raise BadRequirement(requests)


def base_at_rest(disk):
    """The base of a disk that is sound."""
    journal = journal_on(disk)
    if journal is not None:
        raise Pending(journal[1].number)
    found = all_faults(disk)
    if found:
        raise Damaged(tuple(found))
    return Base.of(disk)


def has_row(source, row):
    """Whether a source has a parcel with the name, the version and the label of a row."""
    try:
        parcels = source.parcels_of(row[0], row[1])
    except NoRelease:
        return False
    return row[3] in [parcel.label for parcel in parcels]


def parcels_for(disk, source, rows):
    """A dict of the parcels of rows by their sums, from the store or from their releases in a source."""
    found = {}
    for row in rows:
        parcel = stored_parcel(disk, row[4])
        if parcel is None:
            parcel = parcel_from(source, row)
        if parcel is None and has_row(source, row):
            raise WrongSum(row[0])
        if parcel is None:
            raise NoParcel(row[0])
        found[row[4]] = parcel
    return found


def check_closed(base, parcels):
    """Refuses a base whose rows are not closed with parcels, a dict by sums."""
    rows = [parcels[digest] for digest in parcels]
    if not is_closed(base.requests, base.environment, base.rows, tuple(rows)):
        raise NotClosed(base.environment)


def with_mark(marks, word, number):
    """The tuple of marks with one more, ascending."""
    numbers = {one: other for one, other in marks}
    numbers[word] = number
    return tuple([(one, numbers[one]) for one in sorted_words(list(numbers))])


class Installer:
    """Changes what is installed on a disk, with parcels of a source, for an environment."""

    def __init__(self, disk, source, environment):
        if not isinstance(environment, Environment):
            raise BadEnvironment(environment)
        self._disk = disk
        self._source = source
        self._environment = environment

    def base_now(self):
        """The base of the disk."""
        return Base.of(self._disk)

    def kept_numbers(self):
        """The ascending tuple of the numbers of the older bases on the disk."""
        return tuple(numbers_behind(self._disk, PAST))

    def marks_now(self):
        """The ascending tuple of the pairs of a mark and its number; an empty one if they cannot be read."""
        marks = marks_on(self._disk)
        return () if marks is None else marks

    def install(self, *requirements):
        """Installs what these requirements ask for; the differences of the rows."""
        for requirement in requirements:
            if not isinstance(requirement, Requirement):
                raise BadRequirement(requirement)
        return made(self._change_by((("install",) + requirements,)))

    def remove(self, *names):
        """Takes the requests of these names away; the differences of the rows."""
        return made(self._change_by((("remove",) + names,)))

    def upgrade(self, *names):
        """Lets these names, or all, have what is liked best; the differences of the rows."""
        return made(self._change_by((("upgrade",) + names,)))

    def change_all(self, steps):
        """Makes several steps in one change; the differences of the rows."""
        check_steps(steps)
        return made(self._change_by(steps))

    def would(self, steps):
        """The differences of the rows that these steps would lead to."""
        check_steps(steps)
        change = self._change_by(steps)
        if not change.is_empty():
            change.check()
        return change.told()

    def apply(self, lock):
        """Installs what a lock tells for the environment; the differences of the rows."""
        if not isinstance(lock, Lock):
            raise BadText(lock)
        check_different(lock.requests)
        old = base_at_rest(self._disk)
        rows = lock.section_for(self._environment)
        new = Base(old.number + 1, self._environment, lock.requests, rows)
        parcels = parcels_for(self._disk, self._source, rows)
        check_closed(new, parcels)
        return made(Change(self._disk, old, new, parcels))

    def rollback(self, number):
        """Installs what the older base with this number told; the differences of the rows."""
        old = base_at_rest(self._disk)
        past = past_base(self._disk, number) if is_count(number) else None
        if past is None:
            raise NoPast(number)
        environment = self._environment if number == 0 else past.environment
        parcels = stored_parcels(self._disk, past.rows)
        check_closed(past, parcels)
        return made(Change(self._disk, old, Base(old.number + 1, environment, past.requests, past.rows), parcels))

    def recover(self, way="finish"):
        """Finishes or undoes the change that was begun, and cleans; the number of the base then."""
        if not isinstance(way, str) or way not in WAYS:
            raise BadWay(way)
        base = recovered(self._disk, way)
        return base.number

    def repair(self):
        """Writes what is missing or wrong in the store and on the site; the tuple of the paths that were written."""
        return repaired(self._disk, self._source)

    def mark(self, word):
        """Marks the number of the base with a word."""
        if not is_word(word):
            raise BadName(word)
        base = base_at_rest(self._disk)
        marks = marks_on(self._disk)
        if word in [one for one, _ in marks]:
            raise Taken(word)
        write_all(self._disk, [(MARKS, text_of_marks(with_mark(marks, word, base.number)))])

    def unmark(self, word):
        """Takes a mark away, and cleans."""
        if not is_word(word):
            raise BadName(word)
        base = base_at_rest(self._disk)
        marks = marks_on(self._disk)
        others = [(one, number) for one, number in marks if one != word]
        if len(others) == len(marks):
            raise NoMark(word)
        if others:
            write_all(self._disk, [(MARKS, text_of_marks(others))])
        else:
            self._disk.remove(MARKS)
        clean(self._disk, base)

    def why(self, name):
        """The shortest tuple of names from a request to a name of the base."""
        base = self.base_now()
        is_known = isinstance(name, str) and name in [row[0] for row in base.rows]
        chain = chain_to(self._disk, base, name) if is_known else None
        if chain is None:
            raise NoName(name)
        return chain

    def tree(self):
        """What the requests and the parcels of the base claim, as rows of a depth, a name and a version."""
        for row in tree_rows(self._disk, self.base_now()):
            yield row

    def outdated(self):
        """Each row of the base that would be another one with all names fresh: the name, the version and the other."""
        base = self.base_now()
        choice = self._chosen(base, base.requests, None)
        for name, version, _, _, _ in base.rows:
            other = choice.version_of(name) if name in choice else None
            if other != version:
                yield name, version, other

    def _chosen(self, base, requests, fresh):
        """The best choice for requests that keeps the rows of a base, but for fresh names."""
        taste = Keeping(tuple([(row[0], row[1]) for row in base.rows]), fresh)
        source = Upheld(standing_parcels(self._disk, base.rows), self._source)
        return choose(source, requests, (self._environment,), taste=taste)

    def _change_by(self, steps):
        """The change that these steps lead to."""
        old = base_at_rest(self._disk)
        requests, fresh = asked_by(steps, old)
        choice = self._chosen(old, requests, fresh)
        new = Base(old.number + 1, self._environment, requests, rows_of_choice(choice, self._environment))
        parcels = {parcel.digest: parcel for _, _, _, parcel in choice.rows_in(self._environment)}
        return Change(self._disk, old, new, parcels)
