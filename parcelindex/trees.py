"""What of a base claims what: chains and trees of names."""

from parcelindex.claims import Stand, holding
from parcelindex.stores import stored_parcels


def names_of(requirements):
    """The ascending list of the different names of requirements."""
    found = {requirement.name: True for requirement in requirements}
    return sorted([str(name) for name in found])


def claimed_by_rows(disk, base):
    """For each name of a base the ascending list of the names that its parcel claims; those without a parcel lack."""
    parcels = stored_parcels(disk, base.rows)
    found = {}
    for name, _, extras, _, digest in base.rows:
        if digest in parcels:
            stand = Stand(parcels[digest], base.environment)
            found[name] = names_of(stand.claims(extras))
    return found


def requested_names(base):
    """The list of the names of the requests of a base that hold, in their order."""
    return [request.name for request in holding(base.requests, base.environment)]


def chain_to(disk, base, name):
    """The shortest chain of names from a request to a name, the smallest of equally short ones; None if there is none.

    Chains of one length are lengthened in ascending order, so the first one that comes to a name is the smallest.
    """
    claimed = claimed_by_rows(disk, base)
    chains = [(first,) for first in sorted([str(one) for one in requested_names(base)])]
    seen = {chain[-1]: True for chain in chains}
    while chains:
        longer = []
        for chain in chains:
            if chain[-1] == name:
                return chain
            for other in claimed.get(chain[-1], []):
                if other not in seen:
                    seen[other] = True
                    longer.append(chain + (other,))
        chains = longer
    return None


def tree_rows(disk, base):
    """The list of the rows of the tree of a base."""
    claimed = claimed_by_rows(disk, base)
    versions = {row[0]: row[1] for row in base.rows}
    waiting = [(0, name) for name in reversed(requested_names(base))]
    seen = {}
    found = []
    while waiting:
        depth, name = waiting.pop()
        found.append((depth, name, versions.get(name)))
        if name not in seen:
            seen[name] = True
            waiting.extend([(depth + 1, other) for other in reversed(claimed.get(name, []))])
    return found
