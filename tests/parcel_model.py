"""A second way to tell what texts of requirements and parcels mean, with patterns for lines."""

import re

import marker_model
import model

NAME = "[a-z][a-z0-9-]{0,19}"
WORD = "[a-z]{1,12}"
PATH = "[a-z0-9./-]{1,60}"
RANGE = f"(?:\\*|{model.SIDE}(?:\\|{model.SIDE})*)"
REQUIREMENT = re.compile(f"({NAME})(?:\\[({WORD}(?:,{WORD})*)\\])?({RANGE})?(?:; ((?:.|\n)*))?")
GOOD_SIGNS = set(map(chr, range(32, 127))) - {"%"} | {"\n"}
PRIME = 2 ** 61 - 1


def word_key(word):
    return len(word), word


def rises(row):
    return all(one < other for one, other in zip(row, row[1:]))


def parts_of(text):
    """The name, the extras, the range text and the marker text of a requirement text; None for a wrong one."""
    found = REQUIREMENT.fullmatch(text)
    if not found:
        return None
    name, words, versions, marker = found.groups()
    extras = tuple(words.split(",")) if words else ()
    marker = "always" if marker is None else marker
    if not rises([word_key(word) for word in extras]) or marker_model.read(marker) is None:
        return None
    return name, extras, versions or "*", marker


def text_of(text):
    """The normal text of a right requirement text."""
    name, extras, versions, marker = parts_of(text)
    return written(name, extras, model.normal_text(model.runs_of(versions)), marker_model.text_of(marker))


def written(name, extras, versions, marker):
    text = name
    if extras:
        text += "[" + ",".join(extras) + "]"
    text += {"*": "", "none": "<0a0"}.get(versions, versions)
    return text if marker == "always" else text + "; " + marker


def is_own_text(text):
    """Whether a requirement gives itself this text."""
    return parts_of(text) is not None and text_of(text) == text


def sum_of(text):
    number = 7
    for letter in text:
        number = (number * 1000003 + ord(letter)) % PRIME
    return number


def text_of_parcel(name, version, label, marker, needs, extras, parts):
    """The text of a parcel whose parts are given as texts."""
    text = f"parcel {name} {version} {label}\nfor {marker}\n"
    text += "".join(f"need {need}\n" for need in needs)
    for word, row in extras:
        text += f"extra {word}\n" + "".join(f"with {one}\n" for one in row)
    for path, body in parts:
        text += f"file {path} {len(body)}\n{body}\n"
    return text


def first_wrong_line(text):
    """The number that the reader of parcels must tell [24], or None for a right text.

    The patterns say which lines may stand where; what was read so far is kept as counters.
    """
    whole = text if text.endswith("\n") or text == "" else text + "\n"
    place, number, stage = 0, 0, "start"
    needs = withs = 0
    words, paths = [], []
    while place < len(whole):
        number += 1
        end = whole.index("\n", place)
        line = whole[place:end]
        place = end + 1
        kind = line.split(" ")[0]
        rest = line[len(kind) + 1:]
        if stage == "start":
            if not is_head(line):
                return number
            stage = "head"
        elif stage == "head":
            if kind != "for" or " " not in line or marker_model.read(rest) is None or marker_model.text_of(rest) != rest:
                return number
            stage = "needs"
        elif kind == "need" and stage == "needs":
            needs += 1
            if not is_own_text(rest) or needs > 8:
                return number
        elif kind == "extra" and stage in ("needs", "extras"):
            stage, withs = "extras", 0
            words.append(rest)
            if not re.fullmatch(WORD, rest) or not rises([word_key(word) for word in words]) or len(words) > 4:
                return number
        elif kind == "with" and stage == "extras":
            withs += 1
            if not is_own_text(rest) or withs > 4:
                return number
        elif re.fullmatch(f"file {PATH} (0|[1-9][0-9]?[0-9]?)", line):
            stage = "files"
            paths.append(rest.split(" ")[0])
            length = int(rest.split(" ")[1])
            if length > 300 or not rises(paths) or len(paths) > 6 or text[place + length:place + length + 1] != "\n":
                return number
            for row in whole[place:place + length].split("\n"):
                number += 1
                if set(row) - GOOD_SIGNS:
                    return number
            place += length + 1
        else:
            return number
    return None if stage not in ("start", "head") and text == whole else number + 1


def is_head(line):
    words = line.split(" ")
    return (len(words) == 4 and words[0] == "parcel" and re.fullmatch(NAME, words[1]) is not None
            and model.is_version_text(words[2]) and model.text_of(model.rank_of(words[2])) == words[2]
            and re.fullmatch(WORD, words[3]) is not None)
