"""A second way to tell what texts of versions and ranges mean, for comparison with the program."""

import re

NUMBER = "(?:0|[1-9][0-9]{0,2})"
STAGE = f"(?:(?:a|b|rc){NUMBER})"
VERSION = f"{NUMBER}(?:\\.{NUMBER}){{0,3}}{STAGE}?"
COMPARISON = f"(?:(?:==|!=|<=|>=|<|>){VERSION}|~={NUMBER}(?:\\.{NUMBER}){{1,3}})"
SIDE = f"{COMPARISON}(?:,{COMPARISON})*"
RANGE = f"(?:\\*|none|{SIDE}(?:\\|{SIDE})*)"
LAST = 3000999999999999

# Objects that are no strings, no integers and nothing of the package.
OTHERS = (None, True, False, 1.5, b"1", b"a", ["1"], ("1",), {"1": "1"}, {"1"}, object(), Exception("1"), str, len)


def is_version_text(text):
    return re.fullmatch(VERSION, text) is not None


def is_range_text(text):
    return re.fullmatch(RANGE, text) is not None


def key_of(text):
    """The four numbers, the stage (0 to 3) and its number: versions are ordered as these tuples are."""
    numbers, word, number = re.fullmatch("([0-9.]+)([a-z]*)([0-9]*)", text).groups()
    row = [int(part) for part in numbers.split(".")]
    return tuple(row + [0] * (4 - len(row))), ("a", "b", "rc", "").index(word), int(number or "0")


def rank_of(text):
    (n1, n2, n3, n4), stage, number = key_of(text)
    return (((n1 * 1000 + n2) * 1000 + n3) * 1000 + n4) * 3001 + stage * 1000 + number


def text_of(rank):
    """The text of the version with this rank, made from the last number to the first one."""
    rest, place = divmod(rank, 3001)
    row = []
    for _ in range(4):
        rest, number = divmod(rest, 1000)
        row.insert(0, number)
    while len(row) > 1 and row[-1] == 0:
        row.pop()
    stage = "" if place == 3000 else ("a", "b", "rc")[place // 1000] + str(place % 1000)
    return ".".join(map(str, row)) + stage


def holds(comparison, rank):
    """Whether a version compares so, told by its numbers alone."""
    sign, text = re.fullmatch("([=!<>~]+)(.*)", comparison).groups()
    mine, other = key_of(text_of(rank)), key_of(text)
    if sign == "~=":
        same = text.count(".")
        return mine >= other and mine[0][:same] == other[0][:same]
    return {"==": mine == other, "!=": mine != other, "<": mine < other,
            "<=": mine <= other, ">": mine > other, ">=": mine >= other}[sign]


def has(text, rank):
    """Whether a range text has the version with this rank."""
    if text in ("*", "none"):
        return text == "*"
    return any(all(holds(part, rank) for part in side.split(",")) for side in text.split("|"))


def probes(text):
    """Ranks at all places where the answer of a range text can change, and those beside them, ascending."""
    found = {0, 1, LAST - 1, LAST}
    for part in re.findall(VERSION, text):
        rank = rank_of(part)
        numbers = key_of(part)[0]
        bounds = [rank]
        for many in range(1, 4):
            bounds.append(rank_of(".".join(map(str, numbers[:many] + (999,) * (4 - many)))))
        for bound in bounds:
            found.update(range(max(0, bound - 2), min(LAST, bound + 2) + 1))
    return sorted(found)


def runs_of(text):
    """The runs of a range text: between neighboring probes with other answers there is a bound."""
    runs = []
    before = None
    for rank in probes(text):
        now = has(text, rank)
        if now and not before:
            runs.append([rank, rank])
        if now:
            runs[-1][1] = rank
        before = now
    return tuple((first, last) for first, last in runs)


def normal_text(runs):
    """The normal text of runs, after [6]."""
    if runs == ((0, LAST),):
        return "*"
    if not runs:
        return "none"
    return "|".join(normal_run(first, last) for first, last in runs)


def normal_run(first, last):
    if first == last:
        return "==" + text_of(first)
    lower = [(text_of(first), ">=")] + [(text_of(first - 1), ">")] * (first > 0)
    upper = [(text_of(last), "<=")] + [(text_of(last + 1), "<")] * (last < LAST)
    bounds = [lower] * (first > 0) + [upper] * (last < LAST)
    # min takes the first one of equally short texts.
    return ",".join(sign + text for text, sign in (min(pairs, key=lambda pair: len(pair[0])) for pairs in bounds))


def neighbors(text, signs):
    """The texts with one character left out, put in or changed, and with two neighboring characters exchanged."""
    found = set()
    for at in range(len(text) + 1):
        found.update(text[:at] + sign + text[at:] for sign in signs)
        if at < len(text):
            found.add(text[:at] + text[at + 1:])
            found.update(text[:at] + sign + text[at + 1:] for sign in signs)
        found.add(text[:at] + text[at + 1:at + 2] + text[at:at + 1] + text[at + 2:])
    return sorted(found)
