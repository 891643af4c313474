"""Grounds: why a best choice is the best one."""

from parcelindex.best import better_versions, ranks_of
from parcelindex.calls import Call
from parcelindex.choosing import best_or_clash
from parcelindex.clashing import is_right
from parcelindex.states import search, state_of


def is_kept(kept, version):
    """Whether a name with this kept version is not changed by a choice with that version, or without the name."""
    return kept is not None and (version is None or version == kept)


def limits_of_kept(call, state):
    """The limits that all names with kept versions that are not changed have only these."""
    limits = {}
    for name in call.order_of_names():
        kept = call.kept(name)
        if is_kept(kept, state.version_given(name)):
            limits[name] = ranks_of(kept)
    return limits


def with_limit(limits, name, ranks):
    """Limits, and moreover this one for a name."""
    if name in limits:
        ranks = tuple([rank for rank in limits[name] if rank in ranks])
    return {**limits, name: ranks}


def rows_for_changed(call, state):
    """For each changed name the row without its reason, and the limits of the reason."""
    found = []
    limits = {}
    for name in call.order_of_names():
        kept = call.kept(name)
        if kept is not None:
            within = with_limit(limits, name, ranks_of(kept))
            if is_kept(kept, state.version_given(name)):
                limits = within
            else:
                found.append((("kept", name), within))
    return found


def rows_for_others(call, state):
    """For each better alternative at a name the row without its reason, and the limits of the reason."""
    found = []
    limits = limits_of_kept(call, state)
    for name in call.order_of_names():
        version = state.version_given(name)
        for other in better_versions(call, name, version):
            found.append((("other", name, other), with_limit(limits, name, ranks_of(other))))
        limits = with_limit(limits, name, ranks_of(version))
    return found


def wanted_rows(call):
    """For each row of the grounds of the best choice of a call the row without its reason, and the limits."""
    state = best_or_clash(call)
    return rows_for_changed(call, state) + rows_for_others(call, state)


def state_within(call, limits):
    """The state of all requests of a call within limits."""
    return state_of(call, call.all_places(), limits)


def grounds_of(source, requests, environments, *, taste=None):
    """The grounds of the best choice."""
    call = Call(source, requests, environments, taste)
    rows = []
    for front, limits in wanted_rows(call):
        _, reason = search(state_within(call, limits))
        rows.append(front + (reason,))
    return tuple(rows)


def is_same_part(thing, part):
    """Whether an object is this part of a row: a string, a version or None."""
    if part is None:
        return thing is None
    if isinstance(part, str):
        return isinstance(thing, str) and thing == part
    return part == thing


def is_right_ground(thing, front, state):
    """Whether an object is a row with this front and a right reason."""
    if not isinstance(thing, tuple) or len(thing) != len(front) + 1:
        return False
    if not all([is_same_part(one, part) for one, part in zip(thing, front)]):
        return False
    return is_right(thing[-1], state)


def is_grounds(thing, source, requests, environments, *, taste=None):
    """Whether an object is grounds of the best choice."""
    call = Call(source, requests, environments, taste)
    wanted = wanted_rows(call)
    if not isinstance(thing, tuple) or len(thing) != len(wanted):
        return False
    return all([is_right_ground(row, front, state_within(call, limits)) for row, (front, limits) in zip(thing, wanted)])
