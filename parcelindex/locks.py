"""Locks: choices that are written down, for some environments or for all."""

from parcelindex.calls import Call, check_requests, markers_in_reach
from parcelindex.choosing import choice_or_none
from parcelindex.closing import are_closed, right_parcels
from parcelindex.environments import Environment
from parcelindex.errors import BadEnvironment, BadLock, BadText, NoSection, TooWide
from parcelindex.lines import Lines, WrongLine
from parcelindex.markers import Marker, cells, written_marker
from parcelindex.rows import line_of_row, read_environment, read_requests, read_rows, rows_of_choice

MOST_CELLS = 8


def questions_of(markers):
    """The ascending tuple of the different texts of markers."""
    texts = {str(marker): True for marker in markers}
    return tuple(sorted([str(text) for text in texts]))


def lines_of_section(section):
    """The lines of a section."""
    environment, rows = section
    first = f"environment {environment}"
    if rows is None:
        return [first, "nothing"]
    return [first] + [line_of_row(row) for row in rows]


def text_of_lock(requests, questions, sections):
    """The text of a lock."""
    lines = ["lock"]
    lines.extend([f"request {request}" for request in requests])
    lines.extend([f"question {question}" for question in questions])
    for section in sections:
        lines.extend(lines_of_section(section))
    return "".join([f"{line}\n" for line in lines])


def read_questions(lines):
    """The questions in all next lines that begin like questions."""
    found = []
    while lines.begins("question"):
        text = lines.behind("question")
        rises = not found or found[-1] < text
        lines.accept(written_marker(text) is not None and rises)
        found.append(text)
    return tuple(found)


def read_section(lines, others):
    """The section in the next lines; its environment is none of those with the other texts."""
    environment = read_environment(lines, others)
    if lines.is_next("nothing"):
        lines.accept(True)
        return environment, None
    return environment, read_rows(lines)


def read_lock(lines):
    """The lock that is written in all these lines."""
    lines.accept(lines.is_next("lock"))
    requests = read_requests(lines, False)
    questions = read_questions(lines)
    sections = [read_section(lines, {})]
    seen = {str(sections[0][0]): True}
    while lines.begins("environment"):
        section = read_section(lines, seen)
        sections.append(section)
        seen[str(section[0])] = True
    lines.finish()
    return Lock(requests, questions, tuple(sections))


class Lock:
    """Requests, questions, and a section for each of some environments."""

    def __init__(self, requests, questions, sections):
        self._requests = requests
        self._questions = questions
        self._sections = sections
        self._text = text_of_lock(requests, questions, sections)

    @staticmethod
    def read(text):
        """The lock with exactly this text."""
        if not isinstance(text, str):
            raise BadText(text)
        try:
            return read_lock(Lines(text))
        except WrongLine as wrong:
            raise BadLock(wrong.line) from None

    @property
    def requests(self):
        """The tuple of the requests."""
        return self._requests

    @property
    def questions(self):
        """The ascending tuple of the texts of all markers that can matter."""
        return self._questions

    @property
    def sections(self):
        """The tuple of the pairs of an environment and its rows, or None where there is no choice."""
        return self._sections

    def section_for(self, environment):
        """The rows for an environment: those of the first section that answers all questions in the same way."""
        if not isinstance(environment, Environment):
            raise BadEnvironment(environment)
        markers = [Marker(question) for question in self._questions]
        wanted = [marker(environment) for marker in markers]
        for place, rows in self._sections:
            if [marker(place) for marker in markers] == wanted:
                if rows is None:
                    raise NoSection(environment)
                return rows
        raise NoSection(environment)

    def __eq__(self, other):
        return isinstance(other, Lock) and self._text == other._text

    def __str__(self):
        return str(self._text)


def lock_of(choice):
    """The lock of a choice, with the source as it was then."""
    sections = [(environment, rows_of_choice(choice, environment)) for environment in choice.environments]
    return Lock(choice.requests, questions_of(choice.markers_then()), tuple(sections))


def few_cells(questions):
    """The list of the cells of questions; too many are refused."""
    markers = tuple([Marker(question) for question in questions])
    found = []
    for cell in cells(markers):
        if len(found) == MOST_CELLS:
            raise TooWide(MOST_CELLS)
        found.append(cell)
    return found


def section_alone(source, requests, environment, taste):
    """The section with the best choice for one environment alone."""
    choice = choice_or_none(Call(source, requests, (environment,), taste))
    return environment, None if choice is None else rows_of_choice(choice, environment)


def lock_everywhere(source, requests, *, taste=None):
    """The lock for all environments."""
    check_requests(requests)
    questions = questions_of(markers_in_reach(source, requests))
    sections = [section_alone(source, requests, cell, taste) for cell in few_cells(questions)]
    return Lock(requests, questions, tuple(sections))


def is_closed(requests, environment, rows, parcels):
    """Whether rows are closed in an environment for requests, with these parcels."""
    table = right_parcels(rows, {parcel.digest: parcel for parcel in parcels}, environment)
    return table is not None and are_closed(requests, environment, rows, table)


def by_name(rows):
    """A dict of the versions and sums of rows."""
    return {row[0]: (row[1], row[4]) for row in rows}


def difference(name, old, new):
    """How the row of a name changed: from and to a version and a sum, or None; None if it did not."""
    if old is None:
        return "added", name, None, new[0]
    if new is None:
        return "removed", name, old[0], None
    if old[0] == new[0] and old[1] == new[1]:
        return None
    return "changed", name, old[0], new[0]


def differences(old, new):
    """The ascending tuple of the differences between two tuples of rows."""
    before = by_name(old)
    behind = by_name(new)
    names = {**before, **behind}
    told = [difference(name, before.get(name), behind.get(name)) for name in sorted([str(key) for key in names])]
    return tuple([row for row in told if row is not None])
