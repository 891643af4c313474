"""A second way to find choices: all of them are tried, and compared as the document says."""

import itertools
import random

from parcelindex.environments import Environment
from parcelindex.markers import Marker
from parcelindex.parcels import Parcel
from parcelindex.ranges import Range
from parcelindex.requirements import Requirement
from parcelindex.sources import Index
from parcelindex.tastes import Keeping, Newest, Oldest
from parcelindex.versions import Version

NAMES = ("tea", "cup", "b", "aa", "milk")
VERSIONS = ("1", "2", "3")
EARLY = ("2rc1", "3a0")
MARKERS = ("always",) * 8 + ("system == north", "system != north", "level < 3", "level < 3", "system == north or level > 50")
RANGES = ("",) * 16 + (">=2", "<2", "!=2", ">=2", "<=2", "<3", "!=1", ">1", "==1", "==2", "==3", "==2rc1", ">=2,<2.0.0.1a0")
PLACES = (Environment(), Environment(system="north"), Environment(level=3), Environment(system="north", level=60),
          Environment(machine="b", level=70))
HERE = (Environment(),)
NORTH, SOUTH = Environment(system="north"), Environment(system="south")


class Likes:
    """An object that calls itself equal to everything."""

    def __eq__(self, other):
        return True


def row_of(*texts):
    return tuple(Requirement(text) for text in texts)


def index_of(*rows):
    """An index of parcels: rows of a name, a version, texts of needs and pairs of an extra and texts."""
    index = Index()
    for name, version, *rest in rows:
        needs = rest[0] if rest else ()
        extras = rest[1] if len(rest) > 1 else ()
        index.add(Parcel(name, Version(version), needs=row_of(*needs), extras=tuple((word, row_of(*row)) for word, row in extras)))
    return index


def standing(*texts):
    return tuple((name, Version(version)) for name, version in (text.split(" ") for text in texts))


def word_key(word):
    return len(word), word


class Asked:
    """A call, with all that the points 14 to 20 say of it, told by trying."""

    def __init__(self, source, requests, environments, taste=None):
        self.source = source
        self.requests = requests
        self.environments = environments
        self.taste = taste or Newest()
        self.effective = [one for one in requests if any(one.marker(place) for place in environments)]
        self.reach = reach_of(source, requests)
        self.admitted = {name: self.admitted_of(name) for name in self.reach}

    def kept(self, name):
        standing = self.taste.standing_of(name)
        return standing if standing is not None and standing in self.source.versions_of(name) else None

    def admitted_of(self, name):
        """The admitted versions of a name, the newest first [15]."""
        found = []
        for version in self.source.versions_of(name):
            shy = self.source.is_withdrawn(name, version) or version.is_early
            pins = [one for one in self.effective if one.name == name and one.versions == Range(f"=={version}")]
            if not shy or version == self.kept(name) or pins:
                found.append(version)
        return found

    def parcel(self, name, version, place):
        for parcel in self.source.parcels_of(name, version):
            if parcel.marker(place):
                return parcel
        return None

    def claims(self, picks, requests, place):
        """All claims in an environment, with their owners, and the reached names with their extras [16]."""
        first = [("", one) for one in requests if one.marker(place)]
        found, before = first, None
        while before is None or len(before) < len(found):
            before, reached = found, {}
            for _, claim in before:
                reached.setdefault(claim.name, set()).update(claim.extras)
            found = list(first)
            for name in sorted(reached):
                parcel = self.parcel(name, picks[name], place) if name in picks else None
                rows = [] if parcel is None else [parcel.needs] + [row for word, row in parcel.extras if word in reached[name]]
                found += [(name, claim) for row in rows for claim in row if claim.marker(place)]
        return found, reached

    def is_met(self, claim, version, place):
        parcel = self.parcel(claim.name, version, place)
        if parcel is None or version not in claim.versions:
            return False
        return set(claim.extras) <= {word for word, _ in parcel.extras}

    def is_choice(self, picks, requests):
        names = set()
        for place in self.environments:
            claims, reached = self.claims(picks, requests, place)
            names |= set(reached)
            if not all(claim.name in picks and self.is_met(claim, picks[claim.name], place) for _, claim in claims):
                return False
        return names == set(picks)

    def choices(self, requests, limits=()):
        """All choices for some of the requests, with the versions that are admitted in the whole call."""
        rows = []
        for name in self.reach:
            allowed = [version for version in self.admitted[name]
                       if all(version in versions for one, versions in limits if one == name)]
            rows.append([None] + allowed)
        for row in itertools.product(*rows):
            picks = {name: version for name, version in zip(self.reach, row) if version is not None}
            if self.is_choice(picks, requests):
                yield picks

    def order(self):
        """The order of names [17]."""
        asked = list(dict.fromkeys(one.name for one in self.effective))
        return asked + [name for name in self.reach if name not in asked]

    def is_better(self, one, other):
        """Whether one choice is better than another [17]."""
        for name in self.order():
            kept = self.kept(name)
            if kept is not None:
                changed = [name in picks and picks[name] != kept for picks in (one, other)]
                if changed[0] != changed[1]:
                    return changed[1]
        for name in self.order():
            mine, its = one.get(name), other.get(name)
            if mine is None or its is None:
                if mine is not its:
                    return mine is None
            elif mine != its:
                liked = self.taste(name, tuple(self.admitted[name]))
                return liked.index(mine) < liked.index(its)
        return False

    def best(self):
        """The only choice that is better than all others, or None."""
        best = None
        for picks in self.choices(self.requests):
            if best is None or self.is_better(picks, best):
                best = picks
        return best

    def clash(self):
        """The places of the smallest set of requests without a choice, or None [19]."""
        for many in range(len(self.requests) + 1):
            for places in itertools.combinations(range(len(self.requests)), many):
                if next(self.choices([self.requests[place] for place in places]), None) is None:
                    return places
        return None

    def state(self, requests, limits, picks):
        """For each name on which there is a claim: whether its version, or which versions, meet all claims on it."""
        told = [(place,) + self.claims(picks, requests, place) for place in self.environments]
        names = sorted({name for _, _, reached in told for name in reached})

        def meets(name, version):
            return all(self.is_met(claim, version, place) for place, claims, _ in told for _, claim in claims if claim.name == name)

        return {name: meets(name, picks[name]) if name in picks else
                [version for version in self.admitted[name] if meets(name, version)
                 and all(version in versions for one, versions in limits if one == name)] for name in names}

    def is_right(self, thing, requests, limits=(), picks=None):
        """Whether an object is a right reason in the state with these versions [20]."""
        picks = picks or {}
        if type(thing) is not tuple or len(thing) not in (2, 3) or type(thing[1]) is not str:
            return False
        state = self.state(requests, limits, picks)
        if thing[1] not in state:
            return False
        told = state[thing[1]]
        if len(thing) == 2:
            return thing[0] == "none" and (told is False or told == [])
        if thing[0] != "split" or thing[1] in picks or type(thing[2]) is not tuple or len(thing[2]) != len(told) or not told:
            return False
        return all(type(row) is tuple and len(row) == 2 and version == row[0]
                   and self.is_right(row[1], requests, limits, {**picks, thing[1]: version})
                   for row, version in zip(thing[2], told))

    def reason(self, chance, requests, limits=(), picks=None):
        """Any right reason, or None if there is a choice."""
        picks = picks or {}
        state = self.state(requests, limits, picks)
        stuck = [name for name in state if state[name] is False or state[name] == []]
        left = [name for name in state if name not in picks and state[name]]
        if stuck and (not left or chance.random() < 0.8):
            return "none", chance.choice(stuck)
        if not left:
            return None
        name, rows = chance.choice(left), []
        for version in state[name]:
            reason = self.reason(chance, requests, limits, {**picks, name: version})
            if reason is None:
                return None
            rows.append((version, reason))
        return "split", name, tuple(rows)


def reach_of(source, requests):
    """The reach of requests, ascending [18]."""
    names = {one.name for one in requests}
    while True:
        more = set(names)
        for name in names:
            for version in source.versions_of(name):
                for parcel in source.parcels_of(name, version):
                    more |= {one.name for row in [parcel.needs] + [row for _, row in parcel.extras] for one in row}
        if more == names:
            return sorted(names)
        names = more


def made_requirement(chance, names):
    words = chance.choice(("",) * 7 + ("[b]", "[aa]", "[b,aa]"))
    text = chance.choice(names) + words + chance.choice(RANGES)
    marker = chance.choice(MARKERS)
    return Requirement(text if marker == "always" else f"{text}; {marker}")


def made_index(chance, names):
    """An index with few releases, some of them shy, whose parcels need one another, also in circles."""
    index = Index()
    for name in names:
        for text in chance.sample(VERSIONS, chance.choice((1, 2, 3, 3))) + chance.sample(EARLY, chance.choice((0, 0, 1))):
            for label in ("x", "y")[:chance.choice((1, 1, 2))]:
                needs = tuple(made_requirement(chance, names) for _ in range(chance.choice((0, 0, 1, 1, 2, 3))))
                extras = tuple((word, tuple(made_requirement(chance, names) for _ in range(chance.randint(0, 1))))
                               for word in ("b", "aa") if chance.random() < 0.9)
                marker = Marker(chance.choice(("always",) * 12 + MARKERS))
                index.add(Parcel(name, Version(text), label, marker=marker, needs=needs, extras=extras))
            if chance.random() < 0.1:
                index.withdraw(name, Version(text))
    return index


def made_taste(chance, names):
    kind = chance.randint(0, 4)
    if kind < 2:
        return (None, Newest())[kind]
    if kind == 2:
        return Oldest()
    standing = tuple((name, Version(chance.choice(VERSIONS + EARLY))) for name in names if chance.random() < 0.8)
    fresh = None if chance.random() < 0.05 else tuple(name for name in names if chance.random() < 0.2)
    return Keeping(standing, fresh)


def made_tight_call(seed):
    """A call with many ranges that exclude one another, so that only several requests together have no choice."""
    chance = random.Random(seed)
    names = NAMES[:4]
    ranges = ("", "", ">=2", "<=2", "<3", ">1", "!=2", "==2")
    index = Index()
    for name, text in itertools.product(names, VERSIONS):
        others = [other for other in names if other != name]
        needs = [Requirement(chance.choice(others) + chance.choice(ranges)) for _ in range(chance.choice((0, 1, 2)))]
        index.add(Parcel(name, Version(text), needs=tuple(needs)))
    requests = tuple(Requirement(chance.choice(names) + chance.choice(ranges)) for _ in range(chance.choice((3, 4, 5))))
    return index, requests, PLACES[:chance.choice((1, 2))], made_taste(chance, names)


def made_call(seed):
    """A call: a source, requests, environments and a taste."""
    chance = random.Random(seed)
    names = NAMES[:chance.choice((2, 3, 4, 4, 5))]
    index = made_index(chance, names)
    requests = tuple(made_requirement(chance, names) for _ in range(chance.choice((0, 1, 2, 2, 3, 3, 4))))
    environments = tuple(chance.sample(PLACES, chance.choice((1, 1, 2, 3))))
    return index, requests, environments, made_taste(chance, names)
