"""Steps of a change: what is installed, removed and upgraded, one after the other."""

from parcelindex.errors import BadStep, NoName, NoRequest
from parcelindex.requirements import Requirement


def is_step(thing):
    """Whether an object is a tuple of the word of a step and what belongs to it."""
    if not isinstance(thing, tuple) or len(thing) == 0 or not isinstance(thing[0], str):
        return False
    if thing[0] == "install":
        return all([isinstance(one, Requirement) for one in thing[1:]])
    return thing[0] in ("remove", "upgrade") and all([isinstance(one, str) for one in thing[1:]])


def check_steps(steps):
    """Refuses what is no tuple of steps."""
    if not isinstance(steps, tuple):
        raise BadStep(None)
    for place, step in enumerate(steps):
        if not is_step(step):
            raise BadStep(place)


def place_of_request(requests, name):
    """The place of the request of a name, or None."""
    for place, request in enumerate(requests):
        if isinstance(name, str) and request.name == name:
            return place
    return None


def with_requests(requests, new):
    """The list of requests in which each new one takes the place of that of its name, or comes last."""
    found = list(requests)
    for request in new:
        place = place_of_request(found, request.name)
        if place is None:
            found.append(request)
        else:
            found[place] = request
    return found


def without_requests(requests, names):
    """The list of requests without those of these names."""
    found = list(requests)
    for name in names:
        place = place_of_request(found, name)
        if place is None:
            raise NoRequest(name)
        del found[place]
    return found


def check_rows(rows, names):
    """Refuses the first name without a row."""
    known = [row[0] for row in rows]
    for name in names:
        if not isinstance(name, str) or name not in known:
            raise NoName(name)


def asked_by(steps, base):
    """The tuple of the requests behind these steps, and that of the fresh names: None if all are fresh."""
    requests = base.requests
    fresh = ()
    for step in steps:
        if step[0] == "install":
            requests = with_requests(requests, step[1:])
        elif step[0] == "remove":
            requests = without_requests(requests, step[1:])
        else:
            check_rows(base.rows, step[1:])
            fresh = None if fresh is None or len(step) == 1 else fresh + step[1:]
    return tuple(requests), fresh
