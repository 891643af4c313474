"""A second way to tell what the texts on a disk mean, and which acts changes, recoveries and repairs make.

The texts of a disk are a dict, an act is a pair of a path and a text, or None where the text is removed.
"""

import functools
import re
from collections import namedtuple

import choice_model
import lock_model
from parcelindex import errors
from parcelindex.bases import Standing
from parcelindex.choosing import choose
from parcelindex.disks import Disk
from parcelindex.environments import Environment
from parcelindex.parcels import Parcel
from parcelindex.requirements import Requirement
from parcelindex.tastes import Keeping
from parcelindex.versions import Version

Base = namedtuple("Base", "number place requests rows")
EMPTY = Base(0, None, (), ())
WHOLE = re.compile("0|[1-9][0-9]*")


class Refused(Exception):
    """What a call must raise: an error class and its field."""

    def __init__(self, kind, field):
        Exception.__init__(self, kind, field)
        self.kind, self.field = kind, field


def disk_of(texts, room=None):
    disk = Disk(room)
    for path in texts:
        disk.write(path, texts[path])
    return disk.twin()


def texts_of(disk):
    return {path: disk.text_at(path) for path in disk.paths()}


def after(texts, acts):
    """The texts behind some acts."""
    found = dict(texts)
    for path, text in acts:
        if text is None:
            del found[path]
        else:
            found[path] = text
    return found


@functools.lru_cache(maxsize=None)
def read_base(text):
    """The base with this text, or None."""
    if text == "base 0\n":
        return EMPTY
    if lock_model.wrong_line_of_base(text) is not None:
        return None
    lines = text.split("\n")[:-1]
    place = Environment.read(lines[1].split(" ", 1)[1])
    requests = tuple(Requirement(line.split(" ", 1)[1]) for line in lines if line.startswith("request "))
    rows = []
    for line in lines:
        if line.startswith("row "):
            _, name, version, extras, label, number = line.split(" ")
            rows.append((name, Version(version), () if extras == "-" else tuple(extras.split(",")), label, int(number)))
    return Base(int(lines[0].split(" ")[1]), place, requests, tuple(rows))


def text_of(base):
    return lock_model.text_of_base(base.number, base.place, base.requests, base.rows)


@functools.lru_cache(maxsize=None)
def read_parcel(text):
    try:
        return Parcel.read(text)
    except errors.BadParcel:
        return None


def base_of(texts):
    """The base of a disk, or None if it cannot be read."""
    if "base" not in texts:
        return EMPTY
    base = read_base(texts["base"])
    return None if base is None or base.number == 0 else base


def marks_of(texts):
    """A dict of the marks, or None if they cannot be read."""
    if "marks" not in texts:
        return {}
    rows = texts["marks"].split("\n")
    if rows.pop() != "" or not rows:
        return None
    found = [re.fullmatch("mark ([a-z]{1,12}) (0|[1-9][0-9]{0,49})", row) for row in rows]
    if not all(found):
        return None
    words = [choice_model.word_key(row[1]) for row in found]
    return {row[1]: int(row[2]) for row in found} if words == sorted(set(words)) else None


def journal_of(texts):
    """The bases of the journal, or None if there is none that can be read."""
    rows = texts.get("journal", "").split("\n")
    if rows.count("then") != 1:
        return None
    at = rows.index("then")
    old, new = read_base("\n".join(rows[:at]) + "\n"), read_base("\n".join(rows[at + 1:]))
    return (old, new) if old and new and new.number == old.number + 1 else None


def stored(texts, number):
    """The parcel with this sum in the store, or None."""
    parcel = read_parcel(texts.get(f"store/{number}", ""))
    return parcel if parcel is not None and parcel.digest == number else None


def in_order(texts, front):
    """The paths of past or store in the order of cleaning."""
    paths = [path for path in texts if path.startswith(front)]
    whole = [path for path in paths if WHOLE.fullmatch(path[len(front):])]
    return sorted(whole, key=lambda path: int(path[len(front):])) + sorted(path for path in paths if path not in whole)


def kept(texts, number, marks):
    """The numbers of the older bases on the disk that cleaning keeps."""
    found = []
    for path in in_order(texts, "past/"):
        if WHOLE.fullmatch(path[5:]) and int(path[5:]) < number:
            if number - int(path[5:]) <= 6 or int(path[5:]) in marks.values():
                found.append(int(path[5:]))
    return found


def past(texts, number):
    base = read_base(texts[f"past/{number}"])
    return base if base is not None and base.number == number else None


def waste(texts, base):
    """What cleaning removes, in its order."""
    stays = kept(texts, base.number, marks_of(texts))
    sums = {row[4] for row in base.rows} | {row[4] for number in stays for row in (past(texts, number) or EMPTY).rows}
    return ([path for path in in_order(texts, "past/") if path not in [f"past/{number}" for number in stays]]
            + [path for path in in_order(texts, "store/") if path not in [f"store/{number}" for number in sums]])


def claims_of(base, parcels):
    """All claims of a base with these parcels by names, with their owners, and the extras that are claimed of each name."""
    words, before = {}, None
    while before != words:
        before = {name: set(row) for name, row in words.items()}
        claims = [("", one) for one in base.requests if one.marker(base.place)]
        for name in sorted(set(words) & set(parcels)):
            rows = [parcels[name].needs] + [row for word, row in parcels[name].extras if word in words[name]]
            claims += [(name, one) for row in rows for one in row if one.marker(base.place)]
        for _, claim in claims:
            words.setdefault(claim.name, set()).update(claim.extras)
    return claims, words


def faults(texts):
    """The faults of a disk [32]."""
    if "journal" in texts:
        return [("journal",)]
    base, marks = base_of(texts), marks_of(texts)
    if base is None or marks is None:
        return [("base",)] * (base is None) + [("marks",)] * (marks is None)
    stays = kept(texts, base.number, marks)
    found = [("past", number) for number in stays if past(texts, number) is None]
    wrong = [path for path in in_order(texts, "store/") if (read_parcel(texts[path]) is None or f"store/{read_parcel(texts[path]).digest}" != path)]
    found += [("store", path) for path in wrong]
    mine = {row[4] for row in base.rows}
    others = {row[4] for number in stays for row in (past(texts, number) or EMPTY).rows}
    lost = [number for number in sorted(mine | others) if f"store/{number}" not in texts or f"store/{number}" in wrong]
    found += [("missing", number) for number in lost]
    bad = []
    for name, version, _, label, number in base.rows:
        if number not in lost:
            parcel = stored(texts, number)
            if (parcel.name, parcel.version, parcel.label) != (name, version, label) or not parcel.marker(base.place):
                bad.append(name)
    found += [("row", name) for name in bad]
    if not bad and not mine & set(lost):
        found += faults_of_rows(texts, base)
    found += [("waste", path) for path in waste(texts, base) if path not in wrong]
    for word in sorted(marks, key=choice_model.word_key):
        if marks[word] != base.number and marks[word] not in stays:
            found.append(("mark", word))
    return found


def faults_of_rows(texts, base):
    """The four kinds of faults that need all parcels of the base."""
    parcels = {row[0]: stored(texts, row[4]) for row in base.rows}
    owners = {}
    for name in sorted(parcels):
        for path, text in parcels[name].parts:
            owners.setdefault(path, []).append(text)
    found = [("double", path) for path in sorted(owners) if len(set(owners[path])) > 1]
    found += [("site", path) for path in sorted(owners) if texts.get(f"site/{path}") != owners[path][0]]
    if base.number == 0:
        return found
    claims, words = claims_of(base, parcels)
    unmet = set()
    for owner, claim in claims:
        parcel = parcels.get(claim.name)
        if parcel is None or parcel.version not in claim.versions or not set(claim.extras) <= {word for word, _ in parcel.extras}:
            unmet.add(("claim", owner, str(claim)))
    found += sorted(unmet)
    return found + [("reach", row[0]) for row in base.rows if words.get(row[0]) != set(row[2])]


def owned(base, parcels):
    """The texts of the parts of a base, by their paths; parcels are given by sums."""
    found = {}
    for row in base.rows:
        for path, text in parcels[row[4]].parts:
            found.setdefault(path, text)
    return found


def site_acts(texts, front, back):
    """The acts of step 4."""
    acts = []
    for path in sorted(set(front) | set(back)):
        if path in back and texts.get(f"site/{path}") != back[path]:
            acts.append((f"site/{path}", back[path]))
        if path not in back and f"site/{path}" in texts:
            acts.append((f"site/{path}", None))
    return acts


def base_acts(texts, base):
    """The act of step 5."""
    if base.number == 0:
        return [("base", None)] if "base" in texts else []
    return [] if texts.get("base") == text_of(base) else [("base", text_of(base))]


def last_acts(texts, acts, base):
    """Acts, and moreover the steps 6 and 7."""
    acts = acts + [("journal", None)] * ("journal" in texts)
    return acts + [(path, None) for path in waste(after(texts, acts), base)]


def finish_acts(texts, old, new):
    """The acts 3 to 7."""
    parcels = {row[4]: stored(texts, row[4]) for row in old.rows + new.rows}
    acts = [] if texts.get(f"past/{old.number}") == text_of(old) else [(f"past/{old.number}", text_of(old))]
    acts += site_acts(texts, owned(old, parcels), owned(new, parcels)) + base_acts(texts, new)
    return last_acts(texts, acts, new)


def undo_acts(texts, old, new):
    """The acts 4 and 5 with both bases exchanged, 6 and 7."""
    parcels = {row[4]: stored(texts, row[4]) for row in old.rows + new.rows}
    return last_acts(texts, site_acts(texts, owned(new, parcels), owned(old, parcels)) + base_acts(texts, old), old)


def recovery(texts, way):
    """The number of the base behind a recovery, and its acts."""
    wrong = ["marks"] if marks_of(texts) is None else []
    if "journal" in texts:
        journal = journal_of(texts)
        wrong += ["journal"] if journal is None else [f"store/{row[4]}" for base in journal for row in base.rows if stored(texts, row[4]) is None]
    else:
        wrong += ["base"] if base_of(texts) is None else []
    if wrong:
        raise Refused(errors.Damaged, tuple(sorted(set(wrong))))
    if "journal" not in texts:
        return base_of(texts).number, last_acts(texts, [], base_of(texts))
    old, new = journal
    if way == "finish":
        return new.number, finish_acts(texts, old, new)
    return old.number, undo_acts(texts, old, new)


def new_texts(texts, new, parcels):
    sums = sorted({row[4] for row in new.rows})
    return [(f"store/{number}", parcels[number].text) for number in sums if f"store/{number}" not in texts]


def need(texts, old, new, parcels):
    """What a change and its recoveries need at most [31]."""
    total = sum(len(text) for text in texts.values()) + sum(len(text) for _, text in new_texts(texts, new, parcels))
    total += len(text_of(old) + "then\n" + text_of(new)) + len(text_of(old))
    total += max(0, len(text_of(new)) - (len(text_of(old)) if old.number else 0))
    front, back = owned(old, {row[4]: stored(texts, row[4]) for row in old.rows}), owned(new, parcels)
    return total + sum(max(0, len(back.get(path, "")) - len(front.get(path, ""))) for path in set(front) | set(back))


def differences(old, new):
    mine, its = {row[0]: row for row in old.rows}, {row[0]: row for row in new.rows}
    rows = []
    for name in sorted(set(mine) | set(its)):
        if name not in mine or name not in its:
            word = "added" if name in its else "removed"
            rows.append((word, name, mine[name][1] if name in mine else None, its[name][1] if name in its else None))
        elif (mine[name][1], mine[name][4]) != (its[name][1], its[name][4]):
            rows.append(("changed", name, mine[name][1], its[name][1]))
    return tuple(rows)


def at_rest(texts):
    """The base of a sound disk."""
    if journal_of(texts):
        raise Refused(errors.Pending, journal_of(texts)[1].number)
    if faults(texts):
        raise Refused(errors.Damaged, tuple(faults(texts)))
    return base_of(texts)


def is_empty(old, new):
    """Whether nothing is done [29]."""
    if [str(one) for one in old.requests] != [str(one) for one in new.requests] or old.rows != new.rows:
        return False
    return not new.rows or old.place == new.place


def change(texts, room, old, new, parcels):
    """What a change returns, and its acts."""
    if is_empty(old, new):
        return differences(old, new), []
    paths = {}
    for row in new.rows:
        for path, text in parcels[row[4]].parts:
            paths.setdefault(path, set()).add(text)
    for path in sorted(paths):
        if len(paths[path]) > 1:
            raise Refused(errors.PathClash, path)
    front = owned(old, {row[4]: stored(texts, row[4]) for row in old.rows})
    for path in sorted(paths):
        if path not in front and f"site/{path}" in texts:
            raise Refused(errors.Foreign, path)
    if room is not None and need(texts, old, new, parcels) > room:
        raise Refused(errors.NoRoom, need(texts, old, new, parcels))
    acts = new_texts(texts, new, parcels) + [("journal", text_of(old) + "then\n" + text_of(new))]
    return differences(old, new), acts + finish_acts(after(texts, acts), old, new)


class World:
    """A disk, a source and an environment, with all that an installer answers there."""

    def __init__(self, texts, source, place, room=None):
        self.texts, self.source, self.place, self.room = texts, source, place, room

    def choice(self, base, requests, fresh):
        standing = Keeping(tuple((row[0], row[1]) for row in base.rows), fresh)
        try:
            return choose(Standing(disk_of(self.texts), self.source), requests, (self.place,), taste=standing)
        except errors.NoChoice as error:
            raise Refused(errors.NoChoice, error.clash.places)

    def change_all(self, steps):
        if type(steps) is not tuple:
            raise Refused(errors.BadStep, None)
        for at, step in enumerate(steps):
            kinds = {"install": Requirement, "remove": str, "upgrade": str}
            good = type(step) is tuple and step and type(step[0]) is str and step[0] in kinds
            if not good or not all(isinstance(one, kinds[step[0]]) for one in step[1:]):
                raise Refused(errors.BadStep, at)
        return self.stepwise(steps)

    def stepwise(self, steps):
        base = at_rest(self.texts)
        requests, fresh = list(base.requests), ()
        for word, *things in steps:
            for thing in things:
                names = [one.name for one in requests]
                if word == "install":
                    if thing.name in names:
                        requests[names.index(thing.name)] = thing
                    else:
                        requests.append(thing)
                elif word == "remove":
                    if type(thing) is not str or thing not in names:
                        raise Refused(errors.NoRequest, thing)
                    requests = [one for one in requests if one.name != thing]
                elif type(thing) is not str or thing not in [row[0] for row in base.rows]:
                    raise Refused(errors.NoName, thing)
            if word == "upgrade":
                fresh = None if fresh is None or not things else fresh + tuple(things)
        choice = self.choice(base, tuple(requests), fresh)
        rows, parcels = [], {}
        for name, version, extras, parcel in choice.rows_in(self.place):
            rows.append((name, version, extras, parcel.label, parcel.digest))
            parcels[parcel.digest] = parcel
        return change(self.texts, self.room, base, Base(base.number + 1, self.place, tuple(requests), tuple(rows)), parcels)

    def install(self, *requirements):
        for one in requirements:
            if not isinstance(one, Requirement):
                raise Refused(errors.BadRequirement, one)
        return self.stepwise((("install", *requirements),))

    def remove(self, *names):
        return self.stepwise((("remove", *names),))

    def upgrade(self, *names):
        return self.stepwise((("upgrade", *names),))

    def would(self, steps):
        return self.change_all(steps)[0], []

    def from_source(self, row):
        """The parcels of the release of a row."""
        name, version = row[:2]
        return self.source.parcels_of(name, version) if version in self.source.versions_of(name) else ()

    def apply(self, lock):
        names = [one.name for one in lock.requests]
        if len(set(names)) < len(names):
            raise Refused(errors.BadRequirement, lock.requests)
        base = at_rest(self.texts)
        answers = [lock_model.answers(lock.questions, place) for place, _ in lock.sections]
        wanted = lock_model.answers(lock.questions, self.place)
        rows = lock.sections[answers.index(wanted)][1] if wanted in answers else None
        if rows is None:
            raise Refused(errors.NoSection, self.place)
        parcels = {}
        for row in rows:
            fitting = [one for one in (stored(self.texts, row[4]),) + self.from_source(row) if one is not None and one.digest == row[4]]
            if not fitting:
                named = [one for one in self.from_source(row) if one.label == row[3]]
                raise Refused(errors.WrongSum if named else errors.NoParcel, row[0])
            parcels[row[4]] = fitting[0]
        if not lock_model.is_closed(lock.requests, self.place, rows, tuple(parcels.values())):
            raise Refused(errors.NotClosed, self.place)
        return change(self.texts, self.room, base, Base(base.number + 1, self.place, lock.requests, rows), parcels)

    def rollback(self, number):
        base = at_rest(self.texts)
        if type(number) is not int or f"past/{number}" not in self.texts:
            raise Refused(errors.NoPast, number)
        goal = past(self.texts, number)
        parcels = {row[4]: stored(self.texts, row[4]) for row in goal.rows}
        if number > 0 and not lock_model.is_closed(goal.requests, goal.place, goal.rows, tuple(parcels.values())):
            raise Refused(errors.NotClosed, goal.place)
        new = Base(base.number + 1, goal.place if number > 0 else self.place, goal.requests, goal.rows)
        return change(self.texts, self.room, base, new, parcels)

    def recover(self, way="finish"):
        if way not in ("finish", "undo"):
            raise Refused(errors.BadWay, way)
        return recovery(self.texts, way)

    def write(self, texts):
        """The acts that write some texts, if there is room for them."""
        used = sum(len(text) for text in self.texts.values())
        total = used + sum(max(0, len(text) - len(self.texts.get(path, ""))) for path, text in texts)
        if self.room is not None and total > self.room:
            raise Refused(errors.NoRoom, total)
        return texts

    def mark(self, word):
        if type(word) is not str or not re.fullmatch("[a-z]{1,12}", word):
            raise Refused(errors.BadName, word)
        base, marks = at_rest(self.texts), marks_of(self.texts)
        if word in marks:
            raise Refused(errors.Taken, word)
        return None, self.write([("marks", marks_text({**marks, word: base.number}))])

    def unmark(self, word):
        if type(word) is not str or not re.fullmatch("[a-z]{1,12}", word):
            raise Refused(errors.BadName, word)
        base, marks = at_rest(self.texts), marks_of(self.texts)
        if word not in marks:
            raise Refused(errors.NoMark, word)
        del marks[word]
        return None, last_acts(self.texts, [("marks", marks_text(marks) if marks else None)], base)

    def repair(self):
        texts = self.texts
        base, marks, journal = base_of(texts), marks_of(texts), journal_of(texts)
        wrong = [path for path, bad in (("base", base is None), ("journal", "journal" in texts and not journal), ("marks", marks is None)) if bad]
        if wrong:
            raise Refused(errors.Damaged, tuple(wrong))
        rows = list(base.rows)
        for older in [past(texts, number) for number in kept(texts, base.number, marks)] + list(journal or ()):
            rows += older.rows if older else ()
        writes, parcels = [], {}
        for number in sorted({row[4] for row in rows}):
            parcels[number] = stored(texts, number)
            if parcels[number] is None:
                found = [one for row in rows if row[4] == number for one in self.from_source(row) if one.digest == number]
                if not found:
                    raise Refused(errors.NoRepair, number)
                parcels[number] = found[0]
                writes.append((f"store/{number}", found[0].text))
        if "journal" not in texts:
            site = owned(base, parcels)
            writes += [(f"site/{path}", site[path]) for path in sorted(site) if texts.get(f"site/{path}") != site[path]]
        return tuple(path for path, _ in writes), self.write(writes)

    def parcel_claims(self, base, name):
        """The ascending names that the parcel of a row claims."""
        row = [one for one in base.rows if one[0] == name][0]
        parcel = stored(self.texts, row[4])
        rows = [parcel.needs] + [needs for word, needs in parcel.extras if word in row[2]]
        return sorted({one.name for needs in rows for one in needs if one.marker(base.place)})

    def why(self, name):
        base = base_of(self.texts)
        if name not in [row[0] for row in base.rows]:
            raise Refused(errors.NoName, name)
        best = {one.name: (1, (one.name,)) for one in base.requests if one.marker(base.place)}
        for _ in base.rows:
            for one in list(best):
                for other in self.parcel_claims(base, one):
                    chain = best[one][0] + 1, best[one][1] + (other,)
                    best[other] = min(best.get(other, chain), chain)
        return best[name][1], []

    def tree(self):
        base, rows = base_of(self.texts), []
        versions = {row[0]: row[1] for row in base.rows}

        def grow(depth, name):
            before = name in [row[1] for row in rows]
            rows.append((depth, name, versions[name]))
            if not before:
                for other in self.parcel_claims(base, name):
                    grow(depth + 1, other)

        for one in base.requests:
            if one.marker(base.place):
                grow(0, one.name)
        return rows, []

    def outdated(self):
        base = base_of(self.texts)
        picks = dict(self.choice(base, base.requests, None).picks)
        return [(row[0], row[1], picks.get(row[0])) for row in base.rows if picks.get(row[0]) != row[1]], []


def marks_text(marks):
    return "".join(f"mark {word} {marks[word]}\n" for word in sorted(marks, key=choice_model.word_key))
