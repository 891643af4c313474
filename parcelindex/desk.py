"""Desks: commands in words, and answers in words."""

from parcelindex.audits import all_faults
from parcelindex.checks import number_in
from parcelindex.disks import Disk
from parcelindex.environments import Environment
from parcelindex.errors import AbsentError, ChoiceError, NoChoice, ParcelError
from parcelindex.installers import Installer
from parcelindex.parcels import Parcel
from parcelindex.reports import table
from parcelindex.requirements import Requirement
from parcelindex.sources import Index
from parcelindex.versions import Version

BAD_COMMAND = "bad command"
DONE = "done"
NOTHING = "nothing"
GREATEST_NUMBER = 999999999
# How many words without spaces may stand behind the first word of a command.
COUNTS = {"withdraw": (2,), "restore": (2,), "environment": (3,), "remove": (1,), "upgrade": (0, 1), "rollback": (1,),
          "cut": (1,), "power": (0,), "recover": (1,), "mark": (1,), "unmark": (1,), "show": (0,), "faults": (0,),
          "why": (1,), "read": (1,), "paths": (0,)}
# Behind these words stands all the rest of a command, perhaps empty.
RESTS = ("add", "install")
# Behind these words stands a number.
NUMBERED = ("rollback", "cut")
CAPITALS = "ABCDEFGHIJKLMNOPQRSTUVWXYZ"


def escaped(text):
    """A text as answers write it."""
    return text.replace("\\", "\\\\").replace("\n", "\\n")


def unescaped(text):
    """The text that a command writes so; None if a backslash stands in front of something else."""
    parts = []
    at = 0
    while at < len(text):
        pair = text[at:at + 2]
        if text[at] != "\\":
            parts.append(text[at])
            at += 1
        elif pair == "\\n" or pair == "\\\\":
            parts.append("\n" if pair == "\\n" else "\\")
            at += 2
        else:
            return None
    return "".join(parts)


def rest_of(word, rest):
    """What stands behind the word of a command that takes all the rest; None if it is wrong."""
    text = unescaped(rest) if word == "add" else rest
    return None if text is None else (word, text)


def words_of(command):
    """The words of a command that takes single words; None if they are wrong."""
    words = command.split(" ")
    first = words[0]
    if first not in COUNTS or "" in words or len(words) - 1 not in COUNTS[first]:
        return None
    if first in NUMBERED and number_in(words[1], GREATEST_NUMBER) is None:
        return None
    return tuple(words)


def parts_of(command):
    """The parts of a command; None for every other object."""
    if not isinstance(command, str):
        return None
    word, space, rest = command.partition(" ")
    if word in RESTS:
        return None if space == "" else rest_of(word, rest)
    return words_of(command)


def words_of_error(name):
    """The name of an error class in small letters, with spaces between its words."""
    signs = [f" {sign.lower()}" if sign in CAPITALS else sign for sign in name]
    return "".join(signs).strip()


def text_of_clash(clash):
    """The answer where there is no choice: the places of the clash."""
    places = ",".join([str(place) for place in clash.places])
    return f"no choice {places}"


def text_of_differences(rows):
    """The text of the differences of rows."""
    told = []
    for word, name, old, new in rows:
        before = "-" if old is None else str(old)
        behind = "-" if new is None else str(new)
        told.append(f"{word} {name} {before} {behind}")
    return ", ".join(told) if told else NOTHING


def text_of_faults(disk):
    """The text of the faults of a disk."""
    told = [" ".join([str(part) for part in fault]) for fault in all_faults(disk)]
    return ", ".join(told) if told else "sound"


def text_of_base(base):
    """The table of a base."""
    return table(base) if base.rows else NOTHING


def text_of_paths(disk):
    """The paths of a disk."""
    told = list(disk.paths())
    return " ".join(told) if told else NOTHING


def environment_of(parts):
    """The environment with these words."""
    return Environment.read(" ".join(parts))


class Desk:
    """Executes commands with an index, a disk and an environment of its own."""

    def __init__(self):
        self._index = Index()
        self._disk = Disk()
        self._environment = Environment()

    @property
    def shop(self):
        """The index."""
        return self._index

    @property
    def disk(self):
        """The disk."""
        return self._disk

    def execute(self, command):
        """The answer to a command."""
        parts = parts_of(command)
        if parts is None:
            return BAD_COMMAND
        try:
            answer = self._answer(parts[0], parts[1:])
        except NoChoice as refusal:
            return text_of_clash(refusal.clash)
        except (ParcelError, ChoiceError, AbsentError) as error:
            return words_of_error(type(error).__name__)
        return escaped(answer)

    def execute_all(self, *commands):
        """The answers to commands; each is executed when its answer is requested."""
        for command in commands:
            yield self.execute(command)

    def _answer(self, word, parts):
        """The answer to a right command, without escapes."""
        if word in ("add", "withdraw", "restore"):
            self._change_index(word, parts)
            return DONE
        if word in ("environment", "cut", "power"):
            self._set(word, parts)
            return DONE
        installer = Installer(self._disk, self._index, self._environment)
        if word in ("install", "remove", "upgrade", "rollback"):
            return text_of_differences(self._changed(installer, word, parts))
        if word in ("recover", "mark", "unmark"):
            return self._tended(installer, word, parts)
        return self._told(installer, word, parts)

    def _change_index(self, word, parts):
        """Adds a parcel to the index, withdraws a release or restores it."""
        if word == "add":
            self._index.add(Parcel.read(parts[0]))
        elif word == "withdraw":
            self._index.withdraw(parts[0], Version(parts[1]))
        else:
            self._index.restore(parts[0], Version(parts[1]))

    def _set(self, word, parts):
        """Sets the environment, a cut or the power."""
        if word == "environment":
            self._environment = environment_of(parts)
        elif word == "cut":
            self._disk.cut_after(int(parts[0]))
        else:
            self._disk.power_on()

    def _changed(self, installer, word, parts):
        """Makes a change; the differences."""
        if word == "install":
            return installer.install(Requirement(parts[0]))
        if word == "remove":
            return installer.remove(parts[0])
        if word == "upgrade":
            return installer.upgrade(*parts)
        return installer.rollback(int(parts[0]))

    def _tended(self, installer, word, parts):
        """Recovers the disk, or sets a mark or takes it away; the answer."""
        if word == "recover":
            return str(installer.recover(parts[0]))
        if word == "mark":
            installer.mark(parts[0])
        else:
            installer.unmark(parts[0])
        return DONE

    def _told(self, installer, word, parts):
        """The answer to a command that changes nothing."""
        if word == "show":
            return text_of_base(installer.base_now())
        if word == "faults":
            return text_of_faults(self._disk)
        if word == "why":
            return " ".join(installer.why(parts[0]))
        if word == "read":
            return self._disk.text_at(parts[0])
        return text_of_paths(self._disk)
