"""Versions: their texts, their order and their ranks."""

from parcelindex.checks import is_whole_to, number_in
from parcelindex.errors import BadCount, BadVersion

STAGES = ("a", "b", "rc")
# Four numbers have a thousand versions for each stage and, behind them, the one without a stage.
FINAL = 3000
WIDTH = 3001
GREATEST = 999


def stage_of_text(text):
    """What stands in front of the stage, and the place of the stage among all stages: None for a wrong one."""
    for at, word in enumerate(STAGES):
        front, found, back = text.partition(word)
        if found:
            number = number_in(back, GREATEST)
            if number is None:
                return front, None
            return front, at * 1000 + number
    return text, FINAL


def parts_of_text(thing):
    """The written numbers of a version text and the place of its stage; None for every other object."""
    if not isinstance(thing, str):
        return None
    front, stage = stage_of_text(thing)
    numbers = [number_in(part, GREATEST) for part in front.split(".")]
    if stage is None or None in numbers or len(numbers) > 4:
        return None
    return tuple(numbers), stage


def rank_of(numbers, stage):
    """The rank of the version with the first four of these numbers; missing ones are 0."""
    rank = 0
    for number in (tuple(numbers) + (0, 0, 0))[:4]:
        rank = rank * 1000 + number
    return rank * WIDTH + stage


def numbers_at(rank):
    """The four numbers of the version with this rank."""
    row = rank // WIDTH
    return row // 1000 ** 3, row // 1000 ** 2 % 1000, row // 1000 % 1000, row % 1000


def text_of_numbers(numbers):
    """The numbers without zeros at the end, but always with the first one."""
    many = len(numbers)
    while many > 1 and numbers[many - 1] == 0:
        many -= 1
    return ".".join([str(number) for number in numbers[:many]])


def text_of_stage(stage):
    """The text of the stage at this place among all stages."""
    if stage == FINAL:
        return ""
    return f"{STAGES[stage // 1000]}{stage % 1000}"


def text_at(rank):
    """The text of the version with this rank."""
    return text_of_numbers(numbers_at(rank)) + text_of_stage(rank % WIDTH)


def written_version(text):
    """The version that gives itself exactly this text; None if there is none."""
    if parts_of_text(text) is None:
        return None
    made = Version(text)
    return made if str(made) == text else None


class Version:
    """A version; it is known by its rank alone."""

    LAST = 3000999999999999

    def __init__(self, text):
        parts = parts_of_text(text)
        if parts is None:
            raise BadVersion(text)
        numbers, stage = parts
        self._rank = rank_of(numbers, stage)

    @classmethod
    def of(cls, *numbers):
        """The version with these numbers and without a stage."""
        good = all([is_whole_to(number, GREATEST) for number in numbers])
        if not good or not 1 <= len(numbers) <= 4:
            raise BadVersion(numbers)
        return cls.at(rank_of(numbers, FINAL))

    @classmethod
    def at(cls, rank):
        """The version with this rank."""
        if not is_whole_to(rank, cls.LAST):
            raise BadCount(rank)
        return cls(text_at(rank))

    @property
    def numbers(self):
        """The tuple of all four numbers."""
        return numbers_at(self._rank)

    @property
    def is_early(self):
        """Whether the version has a stage."""
        return self._rank % WIDTH != FINAL

    @property
    def rank(self):
        """The number of versions in front of this one."""
        return self._rank

    def __eq__(self, other):
        return isinstance(other, Version) and self._rank == other._rank

    def __lt__(self, other):
        if not isinstance(other, Version):
            return NotImplemented
        return self._rank < other._rank

    def __le__(self, other):
        if not isinstance(other, Version):
            return NotImplemented
        return self._rank <= other._rank

    def __gt__(self, other):
        if not isinstance(other, Version):
            return NotImplemented
        return self._rank > other._rank

    def __ge__(self, other):
        if not isinstance(other, Version):
            return NotImplemented
        return self._rank >= other._rank

    def __str__(self):
        return str(text_at(self._rank))
