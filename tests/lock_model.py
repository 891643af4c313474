"""A second way to tell what locks and bases are: patterns for their lines, and rows that are closed."""

import itertools
import re

import choice_model
import marker_model
import model
import parcel_model
from parcelindex.environments import Environment

PRIME = 2 ** 61 - 1
NUMBER = "(?:0|[1-9][0-9]*)"
ROW = re.compile(f"row ({parcel_model.NAME}) ({model.VERSION}) (-|{parcel_model.WORD}(?:,{parcel_model.WORD})*) ({parcel_model.WORD}) ({NUMBER})")
PLACE = re.compile(f"environment ({parcel_model.WORD} {parcel_model.WORD} (?:0|[1-9][0-9]?))")


def line_of(row):
    name, version, extras, label, number = row
    return f"row {name} {version} {','.join(extras) or '-'} {label} {number}\n"


def text_of_lock(requests, questions, sections):
    """The text of a lock [24]."""
    text = "lock\n" + "".join(f"request {one}\n" for one in requests) + "".join(f"question {one}\n" for one in questions)
    for place, rows in sections:
        text += f"environment {place}\n" + ("nothing\n" if rows is None else "".join(line_of(row) for row in rows))
    return text


def text_of_base(number, place, requests, rows):
    """The text of a base [27]."""
    if number == 0:
        return "base 0\n"
    return f"base {number}\nenvironment {place}\n" + "".join(f"request {one}\n" for one in requests) + "".join(line_of(row) for row in rows)


def questions_of(source, requests):
    """The questions of a call [22]."""
    found = {str(one.marker) for one in requests}
    for name in choice_model.reach_of(source, requests):
        for version in source.versions_of(name):
            for parcel in source.parcels_of(name, version):
                found |= {str(parcel.marker)} | {str(one.marker) for one in parcel.needs}
                found |= {str(one.marker) for _, row in parcel.extras for one in row}
    return tuple(sorted(found))


def cells_of(questions):
    """The smallest environment for each row of answers, ascending, found by asking all that can matter."""
    words = [word for text in questions for word in marker_model.mentioned(text)]
    asks = [marker_model.asker(text) for text in questions]
    first = {}
    for place in marker_model.places(words):
        first.setdefault(tuple(bool(ask(*place)) for ask in asks), place)
    found = sorted(first.values(), key=marker_model.key_of)
    return tuple(Environment(system=system, machine=machine, level=level) for system, machine, level in found)


def answers(questions, place):
    return [bool(marker_model.asker(text)(place.system, place.machine, place.level)) for text in questions]


def rows_of(asked, best):
    """The rows of a section for the only environment of a call with this best choice, or None."""
    if best is None:
        return None
    place = asked.environments[0]
    _, reached = asked.claims(best, asked.requests, place)
    rows = []
    for name in sorted(reached):
        parcel = asked.parcel(name, best[name], place)
        rows.append((name, best[name], tuple(sorted(reached[name], key=choice_model.word_key)), parcel.label, parcel.digest))
    return tuple(rows)


def is_closed(requests, place, rows, parcels):
    """Whether rows are closed [23]."""
    table = {}
    for name, version, _, label, number in rows:
        fitting = [one for one in parcels if one.digest == number]
        if not fitting or (fitting[0].name, fitting[0].version, fitting[0].label) != (name, version, label) or not fitting[0].marker(place):
            return False
        table[name] = fitting[0]
    claims, before = [one for one in requests if one.marker(place)], None
    while before != len(claims):
        before, words = len(claims), {}
        for claim in claims:
            words.setdefault(claim.name, set()).update(claim.extras)
        if not set(words) <= set(table):
            return False
        claims = [one for one in requests if one.marker(place)]
        for name in words:
            for row in [table[name].needs] + [row for word, row in table[name].extras if word in words[name]]:
                claims += [one for one in row if one.marker(place)]
    for claim in claims:
        parcel = table[claim.name]
        if parcel.version not in claim.versions or not set(claim.extras) <= {word for word, _ in parcel.extras}:
            return False
    return {name: set(extras) for name, _, extras, _, _ in rows} == words


def is_row(line, last):
    """Whether a line is a row behind the one with the last name."""
    found = ROW.fullmatch(line)
    if not found:
        return False
    name, version, extras, _, number = found.groups()
    words = [] if extras == "-" else extras.split(",")
    return (name > last and model.text_of(model.rank_of(version)) == version and len(number) < 20 and int(number) < PRIME
            and parcel_model.rises([parcel_model.word_key(word) for word in words]))


def first_wrong_line(text, step, is_whole):
    """The first line that no step takes, or the number behind the last one; None for a right text."""
    lines = text.split("\n")
    is_closed_off = lines[-1] == ""
    if is_closed_off:
        lines.pop()
    state = {"at": "start", "last": "", "names": [], "places": []}
    for number, line in enumerate(lines, 1):
        if not step(state, line):
            return number
    return None if is_closed_off and is_whole(state) else len(lines) + 1


def step_of_rows(state, line):
    """Takes a row, in locks and in bases."""
    good = state["at"] in ("place", "row") and is_row(line, state["last"])
    if good:
        state.update(at="row", last=line.split(" ")[1])
    return good


def step_of_lock(state, line):
    word, _, rest = line.partition(" ")
    at = state["at"]
    if line == "lock" and at == "start":
        state["at"] = "lock"
    elif word == "request" and at in ("lock", "request") and parcel_model.is_own_text(rest):
        state["at"] = "request"
    elif (word == "question" and at in ("lock", "request", "question") and marker_model.read(rest) and marker_model.text_of(rest) == rest
          and (at != "question" or state["last"] < rest)):
        state.update(at="question", last=rest)
    elif at != "start" and PLACE.fullmatch(line) and rest not in state["places"]:
        state.update(at="place", last="", places=state["places"] + [rest])
    elif line == "nothing" and at == "place":
        state["at"] = "nothing"
    else:
        return step_of_rows(state, line)
    return True


def step_of_base(state, line):
    word, _, rest = line.partition(" ")
    at = state["at"]
    if at == "start" and line == "base 0":
        state["at"] = "zero"
    elif at == "start" and re.fullmatch("base [1-9][0-9]{0,49}", line):
        state["at"] = "base"
    elif at == "base" and PLACE.fullmatch(line):
        state["at"] = "place"
    elif (word == "request" and at == "place" and parcel_model.is_own_text(rest)
          and parcel_model.parts_of(rest)[0] not in state["names"]):
        state["names"].append(parcel_model.parts_of(rest)[0])
    else:
        return step_of_rows(state, line)
    return True


def wrong_line_of_lock(text):
    return first_wrong_line(text, step_of_lock, lambda state: state["at"] in ("place", "row", "nothing"))


def wrong_line_of_base(text):
    return first_wrong_line(text, step_of_base, lambda state: state["at"] in ("zero", "place", "row"))


def wrong_line_of_base_file(text):
    """The same for the file `base` of a disk: there a text with the number 0 is no base."""
    return 1 if text.split("\n")[0] == "base 0" else wrong_line_of_base(text)


def subsets(rows):
    """All parts of a row."""
    return itertools.chain.from_iterable(itertools.combinations(rows, many) for many in range(len(rows) + 1))
