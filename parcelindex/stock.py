"""What events tell: the releases of names, and the parcels of each release."""


class Release:
    """A version of a name with its parcels, in the order in which they were added."""

    def __init__(self, version):
        self._version = version
        self._parcels = []
        self._withdrawn = False

    @property
    def version(self):
        """The version."""
        return self._version

    def parcels(self):
        """The tuple of the parcels."""
        return tuple(self._parcels)

    def is_out(self):
        """Whether the release is withdrawn."""
        return self._withdrawn

    def put(self, parcel):
        """Puts a parcel behind the others."""
        self._parcels.append(parcel)

    def draw(self, withdrawn):
        """Withdraws the release, or restores it."""
        self._withdrawn = withdrawn


class Stock:
    """The releases after a number of events."""

    def __init__(self):
        # For each name a dict of its releases, by the ranks of their versions.
        self._releases = {}

    def all_names(self):
        """The ascending tuple of the names with a release."""
        return tuple(sorted([str(name) for name in self._releases]))

    def all_versions(self, name):
        """The tuple of the versions of a name, the newest first; an empty one for every other object."""
        if not isinstance(name, str) or name not in self._releases:
            return ()
        table = self._releases[name]
        ranks = sorted([int(rank) for rank in table], reverse=True)
        return tuple([table[rank].version for rank in ranks])

    def release(self, name, rank):
        """The release of a name with the version of this rank, or None."""
        if name not in self._releases:
            return None
        return self._releases[name].get(rank)

    def take(self, event):
        """Does what an event tells."""
        if event[0] == "add":
            self._add(event[1])
        else:
            release = self.release(event[1], event[2].rank)
            release.draw(event[0] == "withdraw")

    def _add(self, parcel):
        """Puts a parcel behind the others of its release."""
        version = parcel.version
        table = self._releases.setdefault(parcel.name, {})
        release = table.setdefault(version.rank, Release(version))
        release.put(parcel)
