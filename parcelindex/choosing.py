"""Choices: the best versions for requests in environments."""

from parcelindex.best import best_state
from parcelindex.calls import Call, check_requests, reach_names
from parcelindex.clashing import clash_of
from parcelindex.claims import owned_claims
from parcelindex.errors import BadEnvironment, NoChoice, NoName
from parcelindex.words import sorted_words


def rows_of(claims, table):
    """The rows of the names that are claimed in one environment, with the versions in a dict."""
    rows = []
    for name in claims.claimed_names():
        stand = claims.stand_of(name)
        rows.append((name, table[name], sorted_words(claims.words_of(name)), stand.parcel()))
    return tuple(rows)


def choice_of(call, state):
    """The choice in a state of a call in which all claims are met."""
    given = state.chosen()
    table = {name: given[name].version for name in sorted([str(key) for key in given])}
    rows = []
    claims = []
    for at, environment in enumerate(call.environments):
        told = state.claims_at(at)
        rows.append(rows_of(told, table))
        claims.append(owned_claims(told, call.requests, environment))
    return Choice(call, table, rows, claims)


def best_or_clash(call):
    """The state of the best choice of a call; if there is none, the clash is raised."""
    state = best_state(call)
    if state is None:
        raise NoChoice(clash_of(call))
    return state


def choice_or_none(call):
    """The best choice of a call, or None."""
    state = best_state(call)
    return None if state is None else choice_of(call, state)


def choose(source, requests, environments, *, taste=None):
    """The best choice for requests in environments."""
    call = Call(source, requests, environments, taste)
    return choice_of(call, best_or_clash(call))


def reach_of(source, requests):
    """The names in the reach of requests, ascending."""
    check_requests(requests)
    for name in reach_names(source, requests):
        yield name


class Choice:
    """Versions of some names, and what is reached in each environment; all as the source was then."""

    def __init__(self, call, table, rows, claims):
        self._requests = call.requests
        self._environments = call.environments
        self._markers = call.markers()
        self._table = table
        self._picks = tuple([(name, table[name]) for name in table])
        self._rows = rows
        self._claims = claims

    @property
    def requests(self):
        """The tuple of the requests."""
        return self._requests

    @property
    def environments(self):
        """The tuple of the environments."""
        return self._environments

    def markers_then(self):
        """The tuple of all markers that could matter when the choice was made."""
        return self._markers

    @property
    def picks(self):
        """The ascending tuple of the pairs of a name and its version."""
        return self._picks

    def version_of(self, name):
        """The version of a name."""
        if name not in self:
            raise NoName(name)
        return self._table[name]

    def rows_in(self, environment):
        """The tuple of a name, version, extras and parcel for each name that is reached there, ascending."""
        return self._rows[self._place_of(environment)]

    def claims_in(self, environment):
        """The claims there, as pairs of an owner and a requirement."""
        for claim in self._claims[self._place_of(environment)]:
            yield claim

    def _place_of(self, environment):
        """The place of an environment among those of the choice."""
        for at, other in enumerate(self._environments):
            if other == environment:
                return at
        raise BadEnvironment(environment)

    def __contains__(self, name):
        return isinstance(name, str) and name in self._table

    def __len__(self):
        return len(self._table)

    def __eq__(self, other):
        return isinstance(other, Choice) and self._picks == other._picks
