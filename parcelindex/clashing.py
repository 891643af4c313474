"""Clashes: the smallest sets of requests that cannot be met together, and reasons why not."""

from itertools import combinations

from parcelindex.calls import Call
from parcelindex.requirements import Requirement
from parcelindex.states import search, search_all, state_of


class Clash:
    """Requests of a call that cannot be met together."""

    def __init__(self, places, members, reason):
        self._places = places
        self._members = members
        self._reason = reason

    @property
    def places(self):
        """The ascending tuple of the places of the requests, from 0."""
        return self._places

    @property
    def members(self):
        """The tuple of the requests at these places."""
        return self._members

    @property
    def reason(self):
        """A right reason why there is no choice for them."""
        return self._reason


def clash_of(call):
    """The clash of a call that has no choice."""
    requests = call.requests
    for size in range(1, len(requests) + 1):
        for places in combinations(range(len(requests)), size):
            found, reason = search(state_of(call, places, {}))
            if found is None:
                return Clash(places, tuple([requests[place] for place in places]), reason)
    return None


def clash_or_none(call):
    """The clash of a call, or None if it has a choice."""
    return clash_of(call) if search_all(call, {}) is None else None


def smallest_clash(source, requests, environments, *, taste=None):
    """The clash of the requests, or None if there is a choice."""
    return clash_or_none(Call(source, requests, environments, taste))


def why_not(source, requests, environments, name, version, *, taste=None):
    """The clash of the requests and one for this version of a name, or None if there is a choice.

    The wrong requests and environments come first, then a release that the source does not have.
    """
    Call(source, requests, environments, taste)
    source.parcels_of(name, version)
    wish = Requirement(f"{name}=={version}")
    return clash_or_none(Call(source, requests + (wish,), environments, taste))


def limits_of(pairs):
    """The limits in these pairs of a name and a tuple of versions: for each name the ranks that all of them have."""
    limits = {}
    for name, versions in pairs:
        ranks = tuple([version.rank for version in versions])
        if name in limits:
            ranks = tuple([rank for rank in limits[name] if rank in ranks])
        limits[name] = ranks
    return limits


def are_right_rows(thing, name, state):
    """Whether an object is a tuple of the rows of a split at this name."""
    candidates = state.candidates_left(name)
    if not isinstance(thing, tuple) or len(thing) != len(candidates) or len(thing) == 0:
        return False
    return all([is_right_row(row, name, candidate, state) for row, candidate in zip(thing, candidates)])


def is_right_row(thing, name, candidate, state):
    """Whether an object is a pair of this version and a right reason in the state in which it is given."""
    if not isinstance(thing, tuple) or len(thing) != 2 or candidate.version != thing[0]:
        return False
    return is_right(thing[1], state.with_given(name, candidate))


def is_right(thing, state):
    """Whether an object is a right reason in a state."""
    if not isinstance(thing, tuple) or len(thing) < 2:
        return False
    word, name = thing[:2]
    if not isinstance(word, str) or not isinstance(name, str):
        return False
    if word == "none":
        return len(thing) == 2 and state.is_stuck(name)
    return word == "split" and len(thing) == 3 and are_right_rows(thing[2], name, state)


def is_reason(thing, source, requests, environments, *, taste=None, places=None, limits=()):
    """Whether an object is a right reason for the requests at these places, or for all, within limits."""
    call = Call(source, requests, environments, taste)
    asked = call.all_places() if places is None else places
    return is_right(thing, state_of(call, asked, limits_of(limits)))
