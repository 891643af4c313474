"""Sources: which releases there are, and which parcels they have."""

from parcelindex.checks import is_count, is_whole_to
from parcelindex.environments import Environment
from parcelindex.errors import BadCount, BadEnvironment, BadEvent, NoRelease, Taken
from parcelindex.parcels import Parcel
from parcelindex.stock import Stock
from parcelindex.versions import Version


def place_of_parcel(parcel):
    """What no two parcels of an index have in common: the release and the label."""
    version = parcel.version
    return parcel.name, version.rank, parcel.label


class Source:
    """The base class of all sources; it answers as a source without releases does."""

    def names(self):
        """The ascending tuple of the names that have a release."""
        return ()

    def versions_of(self, name):
        """The tuple of the versions of a name, the newest first; an empty one for every other object."""
        return ()

    def parcels_of(self, name, version):
        """The tuple of the parcels of a release, in their order."""
        raise NoRelease((name, version))

    def is_withdrawn(self, name, version):
        """Whether a release is withdrawn."""
        raise NoRelease((name, version))

    def parcel_for(self, name, version, environment):
        """The first parcel of a release whose marker holds in an environment, or None."""
        parcels = self.parcels_of(name, version)
        if not isinstance(environment, Environment):
            raise BadEnvironment(environment)
        for parcel in parcels:
            marker = parcel.marker
            if marker(environment):
                return parcel
        return None

    def has_name(self, name):
        """Whether there is a release of a name; False for every other object."""
        return len(self.versions_of(name)) > 0

    def release_count(self):
        """The number of releases."""
        return sum([len(self.versions_of(name)) for name in self.names()])


class Stocked(Source):
    """A source that answers from a stock of its own."""

    def __init__(self):
        self._stock = Stock()

    def names(self):
        """The ascending tuple of the names that have a release."""
        return self._stock.all_names()

    def versions_of(self, name):
        """The tuple of the versions of a name, the newest first; an empty one for every other object."""
        return self._stock.all_versions(name)

    def parcels_of(self, name, version):
        """The tuple of the parcels of a release, in their order."""
        release = self._release(name, version)
        return release.parcels()

    def is_withdrawn(self, name, version):
        """Whether a release is withdrawn."""
        release = self._release(name, version)
        return release.is_out()

    def _release(self, name, version):
        """The release of the stock."""
        if not isinstance(name, str) or not isinstance(version, Version):
            raise NoRelease((name, version))
        release = self._stock.release(name, version.rank)
        if release is None:
            raise NoRelease((name, version))
        return release


class Index(Stocked):
    """A source that is made of events."""

    def __init__(self):
        super().__init__()
        self._events = []

    def add(self, *parcels):
        """Adds parcels, in this order."""
        for parcel in parcels:
            if not isinstance(parcel, Parcel):
                raise BadEvent(parcel)
        used = {}
        for parcel in parcels:
            place = place_of_parcel(parcel)
            if place in used or parcel.label in self._labels_beside(parcel):
                raise Taken(parcel.label)
            used[place] = True
        for parcel in parcels:
            self._happen(("add", parcel))

    def withdraw(self, name, version):
        """Withdraws a release."""
        if self.is_withdrawn(name, version):
            raise Taken((name, version))
        self._happen(("withdraw", name, version))

    def restore(self, name, version):
        """Takes back that a release was withdrawn."""
        if not self.is_withdrawn(name, version):
            raise Taken((name, version))
        self._happen(("restore", name, version))

    @property
    def event_count(self):
        """The number of events."""
        return len(self._events)

    def since(self, number):
        """The events behind so many, as they are when the first one is requested."""
        if not is_whole_to(number, len(self._events)):
            raise BadCount(number)
        for event in self._events[number:]:
            yield event

    def event_at(self, place):
        """The event at a place, from 0."""
        return self._events[place]

    def _labels_beside(self, parcel):
        """The labels of the parcels that the release of a parcel has already."""
        version = parcel.version
        release = self._stock.release(parcel.name, version.rank)
        if release is None:
            return []
        return [other.label for other in release.parcels()]

    def _happen(self, event):
        """Keeps an event, and does what it tells."""
        self._events.append(event)
        self._stock.take(event)


class Snapshot(Stocked):
    """An index as it was behind a number of events."""

    def __init__(self, index, number=None):
        super().__init__()
        if number is not None and not is_whole_to(number, index.event_count):
            raise BadCount(number)
        self._count = index.event_count if number is None else number
        for place in range(self._count):
            self._stock.take(index.event_at(place))

    @property
    def event_count(self):
        """The number of events behind which the index was so."""
        return self._count


class Mirror(Stocked):
    """A source that takes over the events of an index when it is asked to."""

    def __init__(self, index):
        super().__init__()
        self._index = index
        self._count = 0

    def pull(self, most=None):
        """Takes over at most so many events, each when it is requested."""
        if most is not None and not is_count(most):
            raise BadCount(most)
        pulled = 0
        while self.lag > 0 and (most is None or pulled < most):
            event = self._index.event_at(self._count)
            self._stock.take(event)
            self._count += 1
            pulled += 1
            yield event

    @property
    def event_count(self):
        """The number of events that were taken over."""
        return self._count

    @property
    def lag(self):
        """The number of events that are missing."""
        return self._index.event_count - self._count


class Layers(Source):
    """Several sources; each name belongs to the first one that has it."""

    def __init__(self, *sources):
        self._sources = sources

    def names(self):
        """The ascending tuple of the names that have a release."""
        found = {}
        for source in self._sources:
            for name in source.names():
                found[name] = True
        return tuple(sorted([str(name) for name in found]))

    def versions_of(self, name):
        """The tuple of the versions of a name, the newest first; an empty one for every other object."""
        owner = self._owner(name)
        return () if owner is None else owner.versions_of(name)

    def parcels_of(self, name, version):
        """The tuple of the parcels of a release, in their order."""
        owner = self._owner(name)
        if owner is None:
            raise NoRelease((name, version))
        return owner.parcels_of(name, version)

    def is_withdrawn(self, name, version):
        """Whether a release is withdrawn."""
        owner = self._owner(name)
        if owner is None:
            raise NoRelease((name, version))
        return owner.is_withdrawn(name, version)

    def _owner(self, name):
        """The source to which a name belongs, or None."""
        for source in self._sources:
            if source.has_name(name):
                return source
        return None
