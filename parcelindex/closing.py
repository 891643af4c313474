"""Whether rows are closed: they have all that is claimed with their own parcels, and nothing else."""

from parcelindex.claims import claims_within, owned_claims
from parcelindex.words import sorted_words


def is_parcel_of_row(row, parcel, environment):
    """Whether a parcel has the name, the version and the label of a row, and a marker that holds there."""
    name, version, _, label, _ = row
    marker = parcel.marker
    return parcel.name == name and parcel.version == version and parcel.label == label and marker(environment)


def right_parcels(rows, parcels, environment):
    """A dict of the parcels of rows by names, found among parcels by sums; None if one is missing or wrong."""
    found = {}
    for row in rows:
        parcel = parcels.get(row[4])
        if parcel is None or row[0] in found or not is_parcel_of_row(row, parcel, environment):
            return None
        found[row[0]] = parcel
    return found


def is_met_by(requirement, parcel):
    """Whether a parcel, or None, meets a claim."""
    if parcel is None or parcel.version not in requirement.versions:
        return False
    offered = [word for word, _ in parcel.extras]
    return all([word in offered for word in requirement.extras])


def unmet_claims(requests, environment, parcels):
    """The list of the claims with their owners that parcels, a dict by names, do not meet."""
    claims = claims_within(requests, environment, parcels)
    found = []
    for owner, requirement in owned_claims(claims, requests, environment):
        if not is_met_by(requirement, parcels.get(requirement.name)):
            found.append((owner, requirement))
    return found


def unreached_names(requests, environment, rows, parcels):
    """The list of the names of rows that are not reached, or of which other extras are claimed than theirs."""
    claims = claims_within(requests, environment, parcels)
    claimed = claims.claimed_names()
    found = []
    for name, _, extras, _, _ in rows:
        if name not in claimed or sorted_words(claims.words_of(name)) != extras:
            found.append(name)
    return found


def are_closed(requests, environment, rows, parcels):
    """Whether rows are closed with their right parcels, a dict by names."""
    if len(unmet_claims(requests, environment, parcels)) > 0:
        return False
    return len(unreached_names(requests, environment, rows, parcels)) == 0
