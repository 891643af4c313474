"""Environments: a system, a machine and a level."""

from parcelindex.checks import is_whole_to, number_in
from parcelindex.errors import BadEnvironment
from parcelindex.names import is_word
from parcelindex.words import place_of_word

HIGHEST = 99
# More than there are words.
WORDS = 100000000000000000


def place_of(system, machine, level):
    """The place of an environment in the order of environments, as one number."""
    return (place_of_word(system) * WORDS + place_of_word(machine)) * 100 + level


def parts_of_environment(thing):
    """The system, the machine and the level in the text of an environment; None for every other object."""
    words = thing.split(" ") if isinstance(thing, str) else []
    if len(words) != 3:
        return None
    system, machine, digits = words
    level = number_in(digits, HIGHEST)
    if not is_word(system) or not is_word(machine) or level is None:
        return None
    return system, machine, level


def written_environment(text):
    """The environment that gives itself exactly this text; None if there is none."""
    parts = parts_of_environment(text)
    if parts is None:
        return None
    system, machine, level = parts
    return Environment(system=system, machine=machine, level=level)


class Environment:
    """What parcels are chosen for."""

    def __init__(self, *, system="a", machine="a", level=0):
        if not is_word(system):
            raise BadEnvironment(system)
        if not is_word(machine):
            raise BadEnvironment(machine)
        if not is_whole_to(level, HIGHEST):
            raise BadEnvironment(level)
        self._system = system
        self._machine = machine
        self._level = level
        self._place = place_of(system, machine, level)

    @staticmethod
    def read(text):
        """The environment that gives itself exactly this text."""
        environment = written_environment(text)
        if environment is None:
            raise BadEnvironment(text)
        return environment

    @property
    def system(self):
        """The system, a word."""
        return self._system

    @property
    def machine(self):
        """The machine, a word."""
        return self._machine

    @property
    def level(self):
        """The level, an integer from 0 to 99."""
        return self._level

    def __eq__(self, other):
        return isinstance(other, Environment) and self._place == other._place

    def __lt__(self, other):
        if not isinstance(other, Environment):
            return NotImplemented
        return self._place < other._place

    def __str__(self):
        return f"{self._system} {self._machine} {self._level}"
