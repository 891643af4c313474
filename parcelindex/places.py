"""The places of a disk that installers use, beside its store: bases, marks and the journal."""

from parcelindex.bases import GREATEST, Base, read_base
from parcelindex.checks import number_in
from parcelindex.errors import BadBase
from parcelindex.lines import Lines, WrongLine
from parcelindex.names import is_word
from parcelindex.stores import STORE, path_of_sum
from parcelindex.words import place_of_word

SITE = "site/"
PAST = "past/"
MARKS = "marks"
JOURNAL = "journal"
# So many older bases are kept without a mark.
KEPT = 6
# No path of a disk is long enough for a greater number.
GREATEST_PLACE = 10 ** 50 * 10 ** 50


def path_of_past(number):
    """Where the base with this number is kept when it is an older one."""
    return f"{PAST}{number}"


def path_on_site(path):
    """Where a disk has the text of a part with this path."""
    return f"{SITE}{path}"


def numbers_behind(disk, front):
    """The ascending list of the integers, without needless zeros, that stand behind this front on a disk."""
    found = []
    for path in disk.paths(front):
        number = number_in(path[len(front):], GREATEST_PLACE)
        if number is not None:
            found.append(number)
    return sorted([int(number) for number in found])


def ordered_paths(disk, front):
    """The list of the paths with this front in the order of cleaning: first integers, then all others."""
    first = [f"{front}{number}" for number in numbers_behind(disk, front)]
    known = {path: True for path in first}
    return first + [path for path in disk.paths(front) if path not in known]


def base_on(disk):
    """The base of a disk, or None if it cannot be read."""
    try:
        base = Base.of(disk)
    except BadBase:
        return None
    return base


def past_base(disk, number):
    """The older base with this number, or None if it is missing, or its text is not of a base with this number."""
    path = path_of_past(number)
    if path not in disk:
        return None
    try:
        base = Base.read(disk.text_at(path))
    except BadBase:
        return None
    return base if base.number == number else None


def text_of_journal(old, new):
    """The text of the journal of a change."""
    return f"{old}then\n{new}"


def read_journal(lines):
    """The bases in front of a change and behind it, which are written in all these lines."""
    old = read_base(lines, 0)
    lines.accept(lines.is_next("then"))
    new = read_base(lines, old.number + 1)
    lines.finish()
    return old, new


def journal_on(disk):
    """The bases in front of the change that was begun and behind it, or None if no journal can be read."""
    if JOURNAL not in disk:
        return None
    try:
        old, new = read_journal(Lines(disk.text_at(JOURNAL)))
    except WrongLine:
        return None
    return (old, new) if new.number == old.number + 1 else None


def text_of_marks(marks):
    """The text of marks."""
    return "".join([f"mark {word} {number}\n" for word, number in marks])


def read_marks(lines):
    """The marks that are written in all these lines; there is at least one."""
    found = []
    last = 0
    while not found or lines.begins("mark"):
        word, _, digits = lines.behind("mark").partition(" ")
        number = number_in(digits, GREATEST)
        lines.accept(is_word(word) and place_of_word(word) > last and number is not None)
        found.append((word, number))
        last = place_of_word(word)
    lines.finish()
    return tuple(found)


def marks_on(disk):
    """The ascending tuple of the pairs of a mark and its number on a disk, or None if they cannot be read."""
    if MARKS not in disk:
        return ()
    try:
        marks = read_marks(Lines(disk.text_at(MARKS)))
    except WrongLine:
        return None
    return marks


def kept_pasts(disk, number, marks):
    """The ascending list of the numbers of older bases that cleaning keeps for the base with this number."""
    marked = [one for _, one in marks]
    found = []
    for past in numbers_behind(disk, PAST):
        if past < number and (number - past <= KEPT or past in marked):
            found.append(past)
    return found


def rows_in_use(disk, base, kept):
    """The list of the rows of a base, and of those of these older bases that can be read."""
    found = list(base.rows)
    for number in kept:
        past = past_base(disk, number)
        if past is not None:
            found.extend(past.rows)
    return found


def waste_on(disk, base, marks):
    """The list of the paths that cleaning removes behind this base, in its order."""
    kept = kept_pasts(disk, base.number, marks)
    stays = {path_of_past(number): True for number in kept}
    for row in rows_in_use(disk, base, kept):
        stays[path_of_sum(row[4])] = True
    paths = ordered_paths(disk, PAST) + ordered_paths(disk, STORE)
    return [path for path in paths if path not in stays]


def owned_texts(rows, parcels):
    """A dict of the texts of all parts of rows by their paths, with parcels by their sums; the first owner's counts."""
    found = {}
    for row in rows:
        for path, text in parcels[row[4]].parts:
            if path not in found:
                found[path] = text
    return found


def doubled_paths(rows, parcels):
    """The ascending list of the paths of parts for which parcels of rows have different texts."""
    owned = owned_texts(rows, parcels)
    found = {}
    for row in rows:
        for path, text in parcels[row[4]].parts:
            if text != owned[path]:
                found[path] = True
    return sorted([str(path) for path in found])
