"""The best choice of a call, found by asking at each name in turn whether something better is left."""

from parcelindex.states import search_all


def ranks_of(version):
    """The limit of a name that has only this version; None stands for no version."""
    return () if version is None else (version.rank,)


def with_fewest_changes(call, state, names):
    """A choice with the best changes of kept versions [17], and limits that keep what is not changed."""
    limits = {}
    for name in names:
        kept = call.kept(name)
        if kept is not None:
            tried = {**limits, name: ranks_of(kept)}
            version = state.version_given(name)
            found = state if version is None or version == kept else search_all(call, tried)
            if found is not None:
                state = found
                limits = tried
    return state, limits


def better_versions(call, name, version):
    """The list of what would be better for a name than this version, the best first; None stands for no version."""
    if version is None:
        return []
    liked = call.liked(name)
    found = list(liked[:liked.index(version)])
    return found if name in call.asked_names() else [None] + found


def improved_at(call, state, name, limits):
    """The choice within limits that has the best at this name."""
    for version in better_versions(call, name, state.version_given(name)):
        found = search_all(call, {**limits, name: ranks_of(version)})
        if found is not None:
            return found
    return state


def best_state(call):
    """The state of the best choice of a call, made from the state of any of its choices; None if there is none."""
    state = search_all(call, {})
    if state is None:
        return None
    names = call.order_of_names()
    state, limits = with_fewest_changes(call, state, names)
    for name in names:
        state = improved_at(call, state, name, limits)
        limits = {**limits, name: ranks_of(state.version_given(name))}
    return state
