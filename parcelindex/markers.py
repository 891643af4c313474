"""Markers: expressions that tell in which environments something holds."""

from parcelindex.environments import HIGHEST, Environment
from parcelindex.errors import BadEnvironment, BadMarker
from parcelindex.expressions import expression_in, text_of_expression
from parcelindex.words import place_of_word, word_at

NOT = (("not", "", ""),)
AND = (("and", "", ""),)
OR = (("or", "", ""),)


def compares(sign, one, other):
    """Whether two words or two numbers compare so."""
    if sign == "==":
        return one == other
    if sign == "!=":
        return one != other
    if sign == "<":
        return one < other
    if sign == "<=":
        return one <= other
    if sign == ">":
        return one > other
    return one >= other


def holds_at(steps, spot):
    """Whether an expression holds at a spot: a tuple of a system, a machine and a level."""
    system, machine, level = spot
    facts = {"system": system, "machine": machine, "level": level}
    held = []
    for word, sign, worth in steps:
        if word in facts:
            held.append(compares(sign, facts[word], worth))
        elif word == "not":
            held.append(not held.pop())
        elif word == "and" or word == "or":
            last = held.pop()
            first = held.pop()
            held.append(first and last if word == "and" else first or last)
        else:
            held.append(word == "always")
    return held[0]


def words_to_look_at(rows, field):
    """The words that the expressions mention in a field, and the first word that they do not mention, ascending."""
    mentioned = {}
    for steps in rows:
        for word, _, worth in steps:
            if word == field:
                mentioned[place_of_word(worth)] = True
    other = 1
    while other in mentioned:
        other += 1
    mentioned[other] = True
    places = sorted([int(place) for place in mentioned])
    return [word_at(place) for place in places]


def levels_to_look_at(rows):
    """The level 0, the levels that the expressions mention, and those behind them, ascending."""
    found = {0: True}
    for steps in rows:
        for word, _, worth in steps:
            if word == "level":
                found[worth] = True
                if worth < HIGHEST:
                    found[worth + 1] = True
    return sorted([int(level) for level in found])


def spots_to_look_at(rows):
    """Spots, ascending, among them the first one for each row of answers that these expressions give anywhere.

    It is enough to look at the words and levels that are mentioned and at those beside them (Fact 2).
    """
    systems = words_to_look_at(rows, "system")
    machines = words_to_look_at(rows, "machine")
    levels = levels_to_look_at(rows)
    return [(system, machine, level) for system in systems for machine in machines for level in levels]


def answers_at(rows, spot):
    """The tuple of the answers of these expressions at a spot."""
    return tuple([holds_at(steps, spot) for steps in rows])


def first_spot(rows, wanted):
    """The first spot at which the answers of these expressions are one of the wanted tuples, or None."""
    for spot in spots_to_look_at(rows):
        if answers_at(rows, spot) in wanted:
            return spot
    return None


def environment_at(spot):
    """The environment at a spot, or None for None."""
    if spot is None:
        return None
    system, machine, level = spot
    return Environment(system=system, machine=machine, level=level)


def marker_of(steps):
    """The marker with this expression."""
    made = Marker()
    made._steps = steps
    return made


def written_marker(text):
    """The marker that gives itself exactly this text; None if there is none."""
    steps = expression_in(text)
    if steps is None or text_of_expression(steps) != text:
        return None
    return marker_of(steps)


class Marker:
    """A set of environments, kept as an expression."""

    def __init__(self, text="always"):
        steps = expression_in(text)
        if steps is None:
            raise BadMarker(text)
        self._steps = steps

    def __call__(self, environment):
        if not isinstance(environment, Environment):
            raise BadEnvironment(environment)
        return holds_at(self._steps, (environment.system, environment.machine, environment.level))

    def __and__(self, other):
        return marker_of(self._steps + other._steps + AND)

    def __or__(self, other):
        return marker_of(self._steps + other._steps + OR)

    def __neg__(self):
        return marker_of(self._steps + NOT)

    def __eq__(self, other):
        if not isinstance(other, Marker):
            return False
        return first_spot((self._steps, other._steps), ((True, False), (False, True))) is None

    def __le__(self, other):
        if not isinstance(other, Marker):
            return NotImplemented
        return first_spot((self._steps, other._steps), ((True, False),)) is None

    def __bool__(self):
        return first_spot((self._steps,), ((True,),)) is not None

    def __str__(self):
        return str(text_of_expression(self._steps))


def check_markers(markers):
    """Refuses what is no tuple of markers."""
    if not isinstance(markers, tuple):
        raise BadMarker(markers)
    for marker in markers:
        if not isinstance(marker, Marker):
            raise BadMarker(marker)


def apart(one, other):
    """The smallest environment in which just one of two markers holds, or None."""
    check_markers((one, other))
    return environment_at(first_spot((one._steps, other._steps), ((True, False), (False, True))))


def together(markers):
    """The smallest environment in which all these markers hold, or None."""
    check_markers(markers)
    rows = tuple([marker._steps for marker in markers])
    return environment_at(first_spot(rows, (tuple([True for _ in rows]),)))


def cells(markers):
    """The smallest environment for each row of answers of these markers that occurs, ascending."""
    check_markers(markers)
    rows = tuple([marker._steps for marker in markers])
    seen = {}
    for spot in spots_to_look_at(rows):
        answers = answers_at(rows, spot)
        if answers not in seen:
            seen[answers] = True
            yield environment_at(spot)
