"""Drawn worlds: an index, a disk on which something was done, and calls of an installer."""

import random

import disk_model
from parcelindex import errors
from parcelindex.choosing import choose
from parcelindex.disks import Disk
from parcelindex.environments import Environment
from parcelindex.errors import ChoiceError
from parcelindex.installers import Installer
from parcelindex.locks import lock_everywhere, lock_of
from parcelindex.markers import Marker
from parcelindex.parcels import Parcel
from parcelindex.requirements import Requirement
from parcelindex.sources import Index
from parcelindex.versions import Version

NAMES = ("tea", "cup", "b", "aa", "milk")
PLACES = (Environment(), Environment(system="north"), Environment(level=3))
MARKERS = ("system == north", "system != north", "level < 3")
RANGES = ("",) * 8 + (">=2", "<2", "!=2", "<=2", ">1", "<3")


class Logged(Disk):
    """A disk that keeps its acts."""

    def __init__(self, room=None):
        Disk.__init__(self, room)
        self.log = []

    def write(self, path, text):
        Disk.write(self, path, text)
        self.log.append((path, text))

    def remove(self, path):
        Disk.remove(self, path)
        self.log.append((path, None))


def logged(texts, room=None):
    """A disk with these texts, without acts."""
    disk = Logged(room)
    for path in texts:
        disk.write(path, texts[path])
    disk.log = []
    return disk


def made_requirement(chance, names, least=0):
    text = chance.choice(names) + chance.choice(("",) * 5 + ("[b]", "[b,aa]")) + chance.choice(RANGES)
    return Requirement(text if chance.random() < 0.85 else f"{text}; {chance.choice(MARKERS)}")


def made_parts(chance, name, version):
    """Parts, some of which other parcels have as well, seldom with another text."""
    parts = {f"{name}/{one}": chance.choice(("", f"{name} {version}\n", "same\n")) for one in "xy" if chance.random() < 0.5}
    if chance.random() < 0.4:
        parts["all"] = "common\n" if chance.random() < 0.9 else f"{name}\n"
    if chance.random() < 0.2:
        parts["all/x-1.txt"] = "~ {}\\\n\n"
    return tuple((path, parts[path]) for path in sorted(parts))


def made_parcel(chance, name, text, label, names):
    later = names[names.index(name):] or names
    needs = tuple(made_requirement(chance, chance.choice((names, later))) for _ in range(chance.choice((0, 0, 1, 1, 2))))
    extras = tuple((word, tuple(made_requirement(chance, names) for _ in range(chance.randint(0, 1)))) for word in ("b", "aa"))
    marker = Marker(chance.choice(("always",) * 8 + MARKERS))
    return Parcel(name, Version(text), label, marker=marker, needs=needs, extras=extras, parts=made_parts(chance, name, text))


def made_index(chance):
    names = NAMES[:chance.choice((2, 3, 4, 5))]
    index = Index()
    for name in names:
        for text in chance.sample(("1", "2", "3", "2rc1"), chance.choice((1, 2, 3))):
            for label in ("all", "big")[:chance.choice((1, 1, 2))]:
                index.add(made_parcel(chance, name, text, label, names))
    return index


def outcome(call):
    """What a call does: ("done", value) or ("refused", error class, field)."""
    try:
        return "done", call()
    except errors.NoChoice as error:
        return "refused", errors.NoChoice, error.clash.places
    except (errors.ParcelError, errors.ChoiceError, errors.AbsentError) as error:
        (field,) = vars(error).values()
        return "refused", type(error), field


def expected(world, word, things):
    """What the model says of a call: the outcome, and its acts."""
    try:
        value, acts = getattr(world, word)(*things)
    except disk_model.Refused as error:
        return ("refused", error.kind, error.field), []
    return ("done", value), acts


def made_call(chance, installer, index, place):
    """The word and the arguments of a call that may be made now."""
    base = installer.base_now()
    mine = [one.name for one in base.requests] or ["tea"]
    rows = [row[0] for row in base.rows] or ["tea"]
    word = chance.choice(("install",) * 6 + ("remove", "remove", "upgrade", "upgrade", "change_all", "change_all", "would", "rollback", "rollback",
                                             "apply", "mark", "unmark", "repair", "recover"))
    if word == "install":
        return word, tuple(made_requirement(chance, index.names() + ("zz",) * (chance.random() < 0.1)) for _ in range(chance.choice((0, 1, 1, 2))))
    if word == "remove":
        return word, (chance.choice(mine + ["zz"]),)
    if word == "upgrade":
        return word, chance.choice(((), (), (chance.choice(rows),), (chance.choice(rows), "zz")))
    if word in ("change_all", "would"):
        return word, (made_steps(chance, index.names(), mine, rows),)
    if word == "rollback":
        return word, (chance.choice(installer.kept_numbers() + (0, base.number, base.number - 1)),)
    if word == "apply":
        return made_lock_call(chance, index, place, base)
    if word in ("mark", "unmark"):
        return word, (chance.choice(("a", "b", "aa", "zz")),)
    return word, () if word == "repair" else (chance.choice(("finish", "undo")),)


def made_steps(chance, names, mine, rows):
    steps = []
    for _ in range(chance.choice((0, 1, 2, 3))):
        word = chance.choice(("install", "install", "remove", "upgrade"))
        if word == "install":
            steps.append((word,) + tuple(made_requirement(chance, names) for _ in range(chance.choice((0, 1, 2)))))
        else:
            source = list(mine) + list(names) if word == "remove" else rows
            steps.append((word,) + tuple({chance.choice(source) for _ in range(chance.choice((0, 1, 1)))}))
    return tuple(steps)


def made_lock_call(chance, index, place, base):
    requests = tuple({one.name: one for one in (made_requirement(chance, index.names()) for _ in range(chance.choice((1, 2))))}.values())
    requests = chance.choice((requests, base.requests or requests))
    lock = lock_everywhere(index, requests)
    if chance.random() < 0.3:
        try:
            lock = lock_of(choose(index, requests, tuple({str(one): one for one in (place, chance.choice(PLACES))}.values())))
        except ChoiceError:
            pass
    return "apply", (lock,)


def go_on(chance, index):
    """Lets the source change: a new parcel, or a release that is withdrawn or restored."""
    name = chance.choice(index.names())
    version = chance.choice(index.versions_of(name))
    if chance.random() < 0.5:
        (index.restore if index.is_withdrawn(name, version) else index.withdraw)(name, version)
    else:
        text = chance.choice(("4", "5", "2.5", "1.0.1", "6a1"))
        if Version(text) not in index.versions_of(name):
            index.add(made_parcel(chance, name, text, "all", index.names()))


def made_world(seed, calls):
    """An index and a disk on which some calls were made, the environment, and the source of chance."""
    chance = random.Random(seed)
    index, disk, place = made_index(chance), Disk(), PLACES[0]
    for _ in range(calls):
        if chance.random() < 0.25:
            go_on(chance, index)
        if chance.random() < 0.15:
            place = chance.choice(PLACES)
        installer = Installer(disk, index, place)
        word, things = made_call(chance, installer, index, place)
        outcome(lambda: getattr(installer, word)(*things))
    return index, disk, place, chance
