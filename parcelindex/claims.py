"""What requests and parcels claim in one environment."""

from parcelindex.words import sorted_words


def holding(requirements, environment):
    """The list of those of these requirements whose markers hold in an environment."""
    found = []
    for requirement in requirements:
        marker = requirement.marker
        if marker(environment):
            found.append(requirement)
    return found


class Stand:
    """A parcel in an environment, with the claims of it that hold there."""

    def __init__(self, parcel, environment):
        self._parcel = parcel
        self._needs = holding(parcel.needs, environment)
        self._offered = {word: holding(row, environment) for word, row in parcel.extras}

    def parcel(self):
        """The parcel."""
        return self._parcel

    def has_extras(self, words):
        """Whether the parcel has all these extras."""
        return all([word in self._offered for word in words])

    def claims(self, words):
        """The list of its needs and of the requirements of those of these extras that it has, in this order."""
        return self._needs + self.claims_for(words)

    def claims_for(self, words):
        """The list of the requirements of those of these extras that the parcel has, in this order."""
        found = []
        for word in words:
            found.extend(self._offered.get(word, []))
        return found


def claims_within(requests, environment, parcels):
    """What requests claim in an environment with these parcels, a dict by their names, in the place of all others."""
    claims = Claims({}, {}, {})
    for name in parcels:
        claims.stand(name, Stand(parcels[name], environment))
    waiting = holding(requests, environment)
    while waiting:
        requirement = waiting.pop()
        if not claims.has(requirement):
            waiting.extend(claims.claim(requirement))
    return claims


def owned_claims(claims, requests, environment):
    """The tuple of all claims in one environment, with their owners: requests have none."""
    found = [("", request) for request in holding(requests, environment)]
    for name in claims.claimed_names():
        stand = claims.stand_of(name)
        if stand is not None:
            words = sorted_words(claims.words_of(name))
            found.extend([(name, requirement) for requirement in stand.claims(words)])
    return tuple(found)


class Claims:
    """The names that are claimed in one environment, and what stands there for some of them."""

    def __init__(self, texts, words, stands):
        # The texts of the claims.
        self._texts = texts
        # For each name that is claimed the tuple of the extras that are claimed of it.
        self._words = words
        # For each name with a version what stands for it there, or None if it has no parcel there.
        self._stands = stands

    def doubled(self):
        """The same claims once more, which change on their own."""
        return Claims(dict(self._texts), dict(self._words), dict(self._stands))

    def has(self, requirement):
        """Whether such a claim was noted already."""
        return str(requirement) in self._texts

    def claimed_names(self):
        """The ascending list of the names that are claimed."""
        return sorted([str(name) for name in self._words])

    def words_of(self, name):
        """The tuple of the extras that are claimed of a name; an empty one if it is not claimed."""
        return self._words.get(name, ())

    def stand_of(self, name):
        """What stands for a name, or None."""
        return self._stands.get(name)

    def claim(self, requirement):
        """Notes a claim; the list of the claims that follow from it at once."""
        self._texts[str(requirement)] = True
        name = requirement.name
        is_new = name not in self._words
        known = self.words_of(name)
        words = tuple([word for word in requirement.extras if word not in known])
        self._words[name] = known + words
        stand = self.stand_of(name)
        if stand is None:
            return []
        return stand.claims(words) if is_new else stand.claims_for(words)

    def stand(self, name, stand):
        """Lets a parcel, or none, stand for a name; the list of the claims that follow from it at once."""
        self._stands[name] = stand
        if stand is None or name not in self._words:
            return []
        return stand.claims(self._words[name])
