"""States of a search: the versions that were given so far, and what follows from them and from requests."""

from parcelindex.claims import Claims


class State:
    """Some versions, with all claims in all environments of a call that follow from them and from requests.

    The limits are a dict: for each limited name the tuple of the ranks of the versions that it may have.
    """

    def __init__(self, call, limits):
        self._call = call
        self._limits = limits
        self._given = {}
        # For each claimed name without a version the list of the candidates that meet all claims on it.
        self._left = {}
        # The names whose versions do not meet all claims on them.
        self._broken = {}
        self._claims = [Claims({}, {}, {}) for _ in call.environments]

    def with_given(self, name, candidate):
        """The state in which a name has a version as well."""
        made = State(self._call, self._limits)
        made._given = dict(self._given)
        made._left = dict(self._left)
        made._broken = dict(self._broken)
        made._claims = [claims.doubled() for claims in self._claims]
        made.give(name, candidate)
        return made

    def give(self, name, candidate):
        """Gives a version to a name, and notes what follows."""
        self._given[name] = candidate
        self._left.pop(name, None)
        waiting = []
        for at, stand in enumerate(candidate.stands()):
            claims = self._claims[at]
            waiting.extend([(at, claim) for claim in claims.stand(name, stand)])
        self.follow(waiting)

    def follow(self, first_claims):
        """Notes claims, pairs of the place of an environment and a requirement, and all that follow from them."""
        waiting = list(first_claims)
        while waiting:
            at, requirement = waiting.pop()
            claims = self._claims[at]
            if not claims.has(requirement):
                waiting.extend([(at, claim) for claim in claims.claim(requirement)])
                self._judge(at, requirement)

    def _judge(self, at, requirement):
        """Notes whether the version of the claimed name meets a claim, or which candidates for it do."""
        name = requirement.name
        if name in self._given:
            if not self._given[name].meets(at, requirement):
                self._broken[name] = True
        else:
            left = self._left[name] if name in self._left else self._within_limits(name)
            self._left[name] = [candidate for candidate in left if candidate.meets(at, requirement)]

    def _within_limits(self, name):
        """The list of the candidates of a name within the limits."""
        found = self._call.candidates(name)
        if name not in self._limits:
            return found
        ranks = self._limits[name]
        kept = []
        for candidate in found:
            version = candidate.version
            if version.rank in ranks:
                kept.append(candidate)
        return kept

    def is_stuck(self, name):
        """Whether a claimed name has a version that does not meet all claims on it, or can have none that does."""
        if name in self._given:
            return name in self._broken
        return name in self._left and len(self._left[name]) == 0

    def stuck_name(self):
        """The first name that is stuck, or None."""
        for name in list(self._broken) + list(self._left):
            if self.is_stuck(name):
                return name
        return None

    def open_name(self):
        """The claimed name without a version that has the fewest candidates; None if there is none."""
        best = None
        for name in self._left:
            if best is None or len(self._left[name]) < len(self._left[best]):
                best = name
        return best

    def forced_name(self):
        """A claimed name without a version that has just one candidate; None if there is none or a name is stuck."""
        name = self.open_name()
        if name is None or len(self._left[name]) > 1 or self.stuck_name() is not None:
            return None
        return name

    def candidates_left(self, name):
        """The list of the candidates that meet all claims on a name; an empty one if it has a version or no claim."""
        return list(self._left.get(name, []))

    def chosen(self):
        """A dict of the candidates that were given to names."""
        return dict(self._given)

    def version_given(self, name):
        """The version that was given to a name, or None."""
        if name not in self._given:
            return None
        return self._given[name].version

    def claims_at(self, at):
        """The claims in the environment at this place."""
        return self._claims[at]


def state_of(call, places, limits):
    """The state without versions for the requests at these places of a call."""
    state = State(call, limits)
    state.follow(call.first_claims(places))
    return state


def give_forced(state):
    """Gives names their only version that is left, as long as there are such; a list of these names and versions."""
    forced = []
    name = state.forced_name()
    while name is not None:
        candidate = state.candidates_left(name)[0]
        forced.append((name, candidate.version))
        state.give(name, candidate)
        name = state.forced_name()
    return forced


def reason_behind(forced, reason):
    """The reason that begins with splits of these names, which had only one version left, and goes on with another."""
    for name, version in reversed(forced):
        reason = ("split", name, ((version, reason),))
    return reason


def search(state):
    """A state in which all claims are met, and None; or None, and a right reason why there is none.

    Only versions are tried that meet all claims so far. The state itself changes while names have only one such left.
    """
    forced = give_forced(state)
    stuck = state.stuck_name()
    if stuck is not None:
        return None, reason_behind(forced, ("none", stuck))
    name = state.open_name()
    if name is None:
        return state, None
    rows = []
    for candidate in state.candidates_left(name):
        found, reason = search(state.with_given(name, candidate))
        if found is not None:
            return found, None
        rows.append((candidate.version, reason))
    return None, reason_behind(forced, ("split", name, tuple(rows)))


def search_all(call, limits):
    """A state in which all claims of a call are met within limits; None if there is none."""
    found, _ = search(state_of(call, call.all_places(), limits))
    return found
