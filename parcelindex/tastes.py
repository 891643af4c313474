"""Tastes: in which order the versions of a name are liked."""

from parcelindex.checks import are_pairs
from parcelindex.errors import BadName, BadVersion
from parcelindex.names import is_name
from parcelindex.versions import Version


def by_rank(versions, newest):
    """The tuple of these versions, the newest or the oldest one first."""
    table = {version.rank: version for version in versions}
    ranks = sorted([int(version.rank) for version in versions])
    if newest:
        ranks.reverse()
    return tuple([table[rank] for rank in ranks])


def is_standing(thing):
    """Whether an object is a tuple of pairs of different names and versions."""
    if not isinstance(thing, tuple) or not are_pairs(thing, len(thing)):
        return False
    if not all([is_name(name) and isinstance(version, Version) for name, version in thing]):
        return False
    names = {name: True for name, _ in thing}
    return len(names) == len(thing)


def is_fresh(thing):
    """Whether an object is a tuple of names, or None."""
    if thing is None:
        return True
    return isinstance(thing, tuple) and all([is_name(name) for name in thing])


class Newest:
    """Likes newer versions better."""

    def __call__(self, name, versions):
        return by_rank(versions, True)

    def standing_of(self, name):
        """The version that a name should keep: there is none."""
        return None


class Oldest:
    """Likes older versions better."""

    def __call__(self, name, versions):
        return by_rank(versions, False)

    def standing_of(self, name):
        """The version that a name should keep: there is none."""
        return None


class Keeping:
    """Likes standing versions best, but for fresh names, and then newer ones better."""

    def __init__(self, standing, fresh=()):
        if not is_standing(standing):
            raise BadVersion(standing)
        if not is_fresh(fresh):
            raise BadName(fresh)
        self._standing = {}
        for name, version in standing:
            if fresh is not None and name not in fresh:
                self._standing[name] = version

    def __call__(self, name, versions):
        standing = self.standing_of(name)
        kept = tuple([version for version in versions if version == standing])
        return kept + by_rank([version for version in versions if version != standing], True)

    def standing_of(self, name):
        """The standing version of a name that is not fresh; None for every other object."""
        if not isinstance(name, str):
            return None
        return self._standing.get(name)
