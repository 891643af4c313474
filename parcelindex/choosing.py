"""Choices: the best versions for requests in environments."""

from parcelindex.best import best_state
from parcelindex.calls import Call, check_requests, reach_names
from parcelindex.clashing import clash_of
from parcelindex.claims import holding
from parcelindex.errors import BadEnvironment, NoChoice, NoName
from parcelindex.states import search_all
from parcelindex.words import sorted_words


def rows_of(claims, table):
    """The rows of the names that are claimed in one environment, with the versions in a dict."""
    rows = []
    for name in claims.claimed_names():
        stand = claims.stand_of(name)
        rows.append((name, table[name], sorted_words(claims.words_of(name)), stand.parcel()))
    return tuple(rows)


def claims_of(claims, requests, environment):
    """All claims in one environment, with their owners."""
    found = [("", request) for request in holding(requests, environment)]
    for name in claims.claimed_names():
        stand = claims.stand_of(name)
        words = sorted_words(claims.words_of(name))
        found.extend([(name, requirement) for requirement in stand.claims(words)])
    return tuple(found)


def choice_of(call, state):
    """The choice in a state of a call in which all claims are met."""
    given = state.chosen()
    table = {name: given[name].version for name in sorted([str(key) for key in given])}
    rows = []
    claims = []
    for at, environment in enumerate(call.environments):
        told = state.claims_at(at)
        rows.append(rows_of(told, table))
        claims.append(claims_of(told, call.requests, environment))
    return Choice(call.requests, call.environments, table, rows, claims)


def choose(source, requests, environments, *, taste=None):
    """The best choice for requests in environments."""
    call = Call(source, requests, environments, taste)
    state = search_all(call, {})
    if state is None:
        raise NoChoice(clash_of(call))
    return choice_of(call, best_state(call, state))


def reach_of(source, requests):
    """The names in the reach of requests, ascending."""
    check_requests(requests)
    for name in reach_names(source, requests):
        yield name


class Choice:
    """Versions of some names, and what is reached in each environment; all as the source was then."""

    def __init__(self, requests, environments, table, rows, claims):
        self._requests = requests
        self._environments = environments
        self._table = table
        self._picks = tuple([(name, table[name]) for name in table])
        self._rows = rows
        self._claims = claims

    @property
    def requests(self):
        """The tuple of the requests."""
        return self._requests

    @property
    def environments(self):
        """The tuple of the environments."""
        return self._environments

    @property
    def picks(self):
        """The ascending tuple of the pairs of a name and its version."""
        return self._picks

    def version_of(self, name):
        """The version of a name."""
        if name not in self:
            raise NoName(name)
        return self._table[name]

    def rows_in(self, environment):
        """The tuple of a name, version, extras and parcel for each name that is reached there, ascending."""
        return self._rows[self._place_of(environment)]

    def claims_in(self, environment):
        """The claims there, as pairs of an owner and a requirement."""
        for claim in self._claims[self._place_of(environment)]:
            yield claim

    def _place_of(self, environment):
        """The place of an environment among those of the choice."""
        for at, other in enumerate(self._environments):
            if other == environment:
                return at
        raise BadEnvironment(environment)

    def __contains__(self, name):
        return isinstance(name, str) and name in self._table

    def __len__(self):
        return len(self._table)

    def __eq__(self, other):
        return isinstance(other, Choice) and self._picks == other._picks
