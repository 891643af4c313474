"""Disks: texts at paths, perhaps with a room, whose power may be cut."""

from parcelindex.checks import DIGITS, LETTERS, is_count, is_string_of, is_text
from parcelindex.errors import BadCount, BadPath, BadText, NoPath, NoRoom, PowerCut

LONGEST_PATH = 80


class Disk:
    """What installers put texts on."""

    def __init__(self, room=None):
        if room is not None and not is_count(room):
            raise BadCount(room)
        self._room = room
        self._texts = {}
        self._used = 0
        self._acts = 0
        # How many acts the power still lasts for; None without a cut.
        self._power = None

    def write(self, path, text):
        """Puts a text at a path."""
        if not is_string_of(path, LETTERS + DIGITS + ".-/", LONGEST_PATH):
            raise BadPath(path)
        if not is_text(text):
            raise BadText(text)
        self._check_power()
        wanted = self._used + len(text) - len(self._texts.get(path, ""))
        if self._room is not None and wanted > self._room:
            raise NoRoom(wanted)
        self._act()
        self._texts[path] = text
        self._used = wanted

    def remove(self, path):
        """Takes the text at a path away."""
        text = self.text_at(path)
        self._check_power()
        self._act()
        del self._texts[path]
        self._used = self._used - len(text)

    def text_at(self, path):
        """The text at a path."""
        if path not in self:
            raise NoPath(path)
        return self._texts[path]

    def paths(self, beginning=""):
        """The paths that begin so, ascending."""
        for path in sorted([str(key) for key in self._texts]):
            if path.startswith(beginning):
                yield path

    @property
    def room(self):
        """The greatest sum of the lengths of all texts, or None."""
        return self._room

    @property
    def used(self):
        """The sum of the lengths of all texts."""
        return self._used

    @property
    def acts(self):
        """How many acts were made."""
        return self._acts

    def cut_after(self, number):
        """Lets the power go off after so many acts."""
        if not is_count(number):
            raise BadCount(number)
        self._power = number

    def power_on(self):
        """Ends every cut."""
        self._power = None

    def twin(self):
        """A disk on its own with the same texts and the same room, without acts and without a cut."""
        made = Disk(self._room)
        made._texts = dict(self._texts)
        made._used = self._used
        return made

    def _check_power(self):
        """Refuses an act if the power is off."""
        if self._power == 0:
            raise PowerCut(self._acts)

    def _act(self):
        """Counts an act."""
        self._acts += 1
        if self._power is not None:
            self._power = self._power - 1

    def __contains__(self, path):
        return isinstance(path, str) and path in self._texts

    def __len__(self):
        return len(self._texts)

    def __eq__(self, other):
        return isinstance(other, Disk) and self._texts == other._texts
