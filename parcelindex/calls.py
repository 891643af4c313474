"""The calls for a choice: what is asked, and which versions are admitted for it."""

from parcelindex.claims import Stand, holding
from parcelindex.environments import Environment
from parcelindex.errors import BadEnvironment, BadRequirement
from parcelindex.requirements import Requirement
from parcelindex.tastes import Newest

MOST_ENVIRONMENTS = 8


def check_requests(requests):
    """Refuses what is no tuple of requirements."""
    if not isinstance(requests, tuple):
        raise BadRequirement(requests)
    for request in requests:
        if not isinstance(request, Requirement):
            raise BadRequirement(request)


def are_different(row):
    """Whether no two items of a row are equal."""
    return all([row[at] != other for at in range(len(row)) for other in row[:at]])


def are_environments(thing):
    """Whether an object is a tuple of one to eight different environments."""
    if not isinstance(thing, tuple) or not 1 <= len(thing) <= MOST_ENVIRONMENTS:
        return False
    return all([isinstance(one, Environment) for one in thing]) and are_different(thing)


def reach_names(source, requests):
    """The ascending list of the names in the reach of these requests."""
    found = {}
    waiting = [request.name for request in requests]
    while waiting:
        name = waiting.pop()
        if name not in found:
            found[name] = True
            for version in source.versions_of(name):
                for parcel in source.parcels_of(name, version):
                    waiting.extend(names_claimed_by(parcel))
    return sorted([str(name) for name in found])


def names_claimed_by(parcel):
    """The list of the names of all needs and of all requirements of the extras of a parcel."""
    names = [need.name for need in parcel.needs]
    for _, row in parcel.extras:
        names.extend([requirement.name for requirement in row])
    return names


def markers_of_parcel(parcel):
    """The list of the marker of a parcel and of those of its needs and of the requirements of its extras."""
    found = [parcel.marker]
    found.extend([need.marker for need in parcel.needs])
    for _, row in parcel.extras:
        found.extend([requirement.marker for requirement in row])
    return found


def markers_in_reach(source, requests):
    """The tuple of all markers that can matter for these requests: their own and those of the parcels in the reach."""
    found = [request.marker for request in requests]
    for name in reach_names(source, requests):
        for version in source.versions_of(name):
            for parcel in source.parcels_of(name, version):
                found.extend(markers_of_parcel(parcel))
    return tuple(found)


class Candidate:
    """An admitted version of a name, and what stands for it in each environment of a call."""

    def __init__(self, version, stands):
        self._version = version
        self._stands = stands

    @property
    def version(self):
        """The version."""
        return self._version

    def stands(self):
        """What stands for it in each environment; None where it has no parcel."""
        return self._stands

    def meets(self, place, requirement):
        """Whether it meets a claim on its name in the environment at this place."""
        stand = self._stands[place]
        if stand is None or self._version not in requirement.versions:
            return False
        return stand.has_extras(requirement.extras)


class Call:
    """A source, requests, environments and a taste, and what follows from them for each name."""

    def __init__(self, source, requests, environments, taste):
        check_requests(requests)
        if not are_environments(environments):
            raise BadEnvironment(environments)
        self._source = source
        self._requests = requests
        self._environments = environments
        self._taste = Newest() if taste is None else taste
        self._effective = [request for request in requests if self._has_effect(request)]
        # What was worked out for names already.
        self._candidates = {}

    @property
    def requests(self):
        """The tuple of all requests."""
        return self._requests

    @property
    def environments(self):
        """The tuple of the environments."""
        return self._environments

    def all_places(self):
        """The tuple of the places of all requests."""
        return tuple(range(len(self._requests)))

    def first_claims(self, places):
        """The claims of the requests at these places: pairs of the place of an environment and a request."""
        asked = [self._requests[place] for place in places]
        found = []
        for at, environment in enumerate(self._environments):
            found.extend([(at, request) for request in holding(asked, environment)])
        return found

    def asked_names(self):
        """The names of the requests that have an effect, in their order, each once."""
        found = {request.name: True for request in self._effective}
        return list(found)

    def order_of_names(self):
        """The names of the requests that have an effect, and then the others in the reach, ascending."""
        asked = self.asked_names()
        return asked + [name for name in reach_names(self._source, self._requests) if name not in asked]

    def markers(self):
        """The tuple of all markers that can matter."""
        return markers_in_reach(self._source, self._requests)

    def kept(self, name):
        """The kept version of a name, or None."""
        standing = self._taste.standing_of(name)
        if standing is None or standing not in self._source.versions_of(name):
            return None
        return standing

    def candidates(self, name):
        """The list of the candidates of a name: its admitted versions, the newest first."""
        if name not in self._candidates:
            admitted = self._admitted(name)
            self._candidates[name] = [Candidate(version, self._stands_of(name, version)) for version in admitted]
        return self._candidates[name]

    def liked(self, name):
        """The tuple of the admitted versions of a name, the best one first."""
        taste = self._taste
        return taste(name, tuple([candidate.version for candidate in self.candidates(name)]))

    def _has_effect(self, request):
        """Whether a request holds in one of the environments."""
        return any([len(holding((request,), environment)) > 0 for environment in self._environments])

    def _stands_of(self, name, version):
        """What stands for a version of a name in each environment."""
        stands = []
        for environment in self._environments:
            parcel = self._source.parcel_for(name, version, environment)
            stands.append(None if parcel is None else Stand(parcel, environment))
        return stands

    def _admitted(self, name):
        """The list of the admitted versions of a name, the newest first."""
        named = [self.kept(name)]
        for request in self._effective:
            if request.name == name:
                versions = request.versions
                named.append(versions.pin)
        found = []
        for version in self._source.versions_of(name):
            shy = version.is_early or self._source.is_withdrawn(name, version)
            if not shy or version in named:
                found.append(version)
        return found
